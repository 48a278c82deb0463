/- Contracts of field's sums: Add, Sub, Neg, Small. The contract of field.Mul: the product modulo 2^255 - 19; nothing that was there turns. '==' on arrays of integers: the run's answer is the lists' own. Contracts of field's questions: Zero, Same, Odd; '==' of Elements and of Keys. -/
import Derived.Test.YtegbnadnodlalaaGreatDoorLa0GFc
import Derived.StillTailTactics
import Derived.Deep.QuietTactic
import Derived.BigQuiet
import Derived.Deep.RegionHeld3
import Derived.Deep.DrawnRows
import Derived.ChangeKeysEq
namespace Go.Proofs.YtegbnadnodlalaaGreatDoor
open Go.RowKit
theorem info_El (n : Nat) : (Tryz.prog.info? 83).map (·.size) = some (El_cells n).size := by kernel_rfl
theorem El_one (n : Nat) : (El_cells n).all (·.oneCell') = true := by simp [El_cells, Value.oneCell']
set_option maxHeartbeats 1000000 in
set_option maxRecDepth 100000 in
theorem add_parts (x0 x1 x2 x3 x4 y0 y1 y2 y3 y4 : Int) (n : Nat) (w : World)
  (p0 : 0 ≤ x0) (p1 : 0 ≤ x1) (p2 : 0 ≤ x2) (p3 : 0 ≤ x3) (p4 : 0 ≤ x4) (q0 : x0 < 2251799813685248) (q1 : x1 < 2251799813685248) (q2 : x2 < 2251799813685248) (q3 : x3 < 2251799813685248) (q4 : x4 < 2251799813685248)
  (r0 : 0 ≤ y0) (r1 : 0 ≤ y1) (r2 : 0 ≤ y2) (r3 : 0 ≤ y3) (r4 : 0 ≤ y4) (s0 : y0 < 2251799813685248) (s1 : y1 < 2251799813685248) (s2 : y2 < 2251799813685248) (s3 : y3 < 2251799813685248) (s4 : y4 < 2251799813685248)
  (hn : Hid (val5 (x0 + y0) (x1 + y1) (x2 + y2) (x3 + y3) (x4 + y4) = n)) :
  Calls Tryz.prog 96 #[.agg #[.int .u64 x0, .int .u64 x1, .int .u64 x2, .int .u64 x3, .int .u64 x4], .agg #[.int .u64 y0, .int .u64 y1, .int .u64 y2, .int .u64 y3, .int .u64 y4]] w fun e w' => e = .returned (El (n % pp)) ∧ Below w.heap.size w w' := by
 go_enter Tryz.func96, Tryz.ntmps96
 go_wp2
 generalize hW : World.alloc (World.alloc (World.alloc w _) _) _ = W
 have B0 : Blk W w.heap.size 83 #[.int .u64 x0, .int .u64 x1, .int .u64 x2, .int .u64 x3, .int .u64 x4] := hW ▸ ((Blk.new w _ _).alloc _).alloc _
 have B1 : Blk W (w.heap.size + 1) 83 #[.int .u64 y0, .int .u64 y1, .int .u64 y2, .int .u64 y3, .int .u64 y4] := hW ▸ (size_alloc w _ ▸ Blk.new (w.alloc _) _ _).alloc _
 have B2 : Blk W (w.heap.size + 1 + 1) 83 #[.int .u64 0, .int .u64 0, .int .u64 0, .int .u64 0, .int .u64 0] := hW ▸ (by simpa [size_alloc] using Blk.new ((w.alloc _).alloc _) _ _)
 have BW : Below w.heap.size w W := hW ▸ (((Below.refl _ _).alloc (Nat.le_refl _) _).alloc (by simp) _).alloc (by simp; omega) _
 clear hW
 refine wp_region_still_tail 45 (by kernel_rfl) (by kernel_rfl) ?_
 simp only [List.take_succ_cons, List.take_zero, List.drop_succ_cons, List.drop_zero]
 change wpStill _ _ (World.drew W) (fun a' => wpList _ _ _ _ a' (World.drew W)) _ _
 generalize hV : World.drew W = V
 obtain ⟨d0, d1, d2, d3, d4⟩  := hV ▸ B0.drew.five
 obtain ⟨e0, e1, e2, e3, e4⟩  := hV ▸ B1.drew.five
 have BV : Blk V _ _ _ := hV ▸ B2.drew
 have BB := hV ▸ below_drew BW
 clear B0 B1 B2 BW hV W
 repeat still_step
 refine wpStill_nil ?_
 go_wp2_with fail
 refine (reduce_any _ _ _ _ _ n _ (by omega) (by omega) (by omega) (by omega) (by omega) (by omega) (by omega) (by omega) (by omega) (by omega) hn.out).mono ?_
 rintro e w1 ⟨rfl, hb⟩
 have B3 := BV.below hb BV.lt
 have hB := BB.trans (hb.mono BB.size)
 clear hb BB BV d0 d1 d2 d3 d4 e0 e1 e2 e3 e4
 go_wp2_with (refine wpList_store_row rfl 83 _ _ rfl (w.heap.size + 1 + 1) (El_cells _) rfl rfl 83 _ B3 (info_El _) rfl (El_one _) ?_)
 exact bodyPost_ret (results_cell_row rfl _ _ _ 83 _ (0, 0) _ rfl (B3.row _) Tryz.underlying83 rfl (info_El _)) rfl ⟨rfl, below_setRow hB (by omega) _⟩
theorem add_any (a b : Nat) (w : World) (ha : a < pp) (hb : b < pp) : Calls Tryz.prog 96 #[El a, El b] w fun e w' => e = .returned (El ((a + b) % pp)) ∧ Below w.heap.size w w' := by
 rw [pp_eq] at ha hb
 exact add_parts _ _ _ _ _ _ _ _ _ _ (a + b) w (by omega) (by omega) (by omega) (by omega) (by omega) (by omega) (by omega) (by omega) (by omega) (by omega)
  (by omega) (by omega) (by omega) (by omega) (by omega) (by omega) (by omega) (by omega) (by omega) (by omega) (Lib.hid (by unfold val5; omega))
set_option maxHeartbeats 1000000 in
set_option maxRecDepth 100000 in
theorem sub_parts (x0 x1 x2 x3 x4 y0 y1 y2 y3 y4 : Int) (n : Nat) (w : World)
  (p0 : 0 ≤ x0) (p1 : 0 ≤ x1) (p2 : 0 ≤ x2) (p3 : 0 ≤ x3) (p4 : 0 ≤ x4) (q0 : x0 < 2251799813685248) (q1 : x1 < 2251799813685248) (q2 : x2 < 2251799813685248) (q3 : x3 < 2251799813685248) (q4 : x4 < 2251799813685248)
  (r0 : 0 ≤ y0) (r1 : 0 ≤ y1) (r2 : 0 ≤ y2) (r3 : 0 ≤ y3) (r4 : 0 ≤ y4) (s0 : y0 < 2251799813685248) (s1 : y1 < 2251799813685248) (s2 : y2 < 2251799813685248) (s3 : y3 < 2251799813685248) (s4 : y4 < 2251799813685248)
  (hn : Hid (val5 (4503599627370458 + x0 - y0) (4503599627370494 + x1 - y1) (4503599627370494 + x2 - y2) (4503599627370494 + x3 - y3) (4503599627370494 + x4 - y4) = n)) :
  Calls Tryz.prog 94 #[.agg #[.int .u64 x0, .int .u64 x1, .int .u64 x2, .int .u64 x3, .int .u64 x4], .agg #[.int .u64 y0, .int .u64 y1, .int .u64 y2, .int .u64 y3, .int .u64 y4]] w fun e w' => e = .returned (El (n % pp)) ∧ Below w.heap.size w w' := by
 go_enter Tryz.func94, Tryz.ntmps94
 go_wp2
 generalize hW : World.alloc (World.alloc (World.alloc w _) _) _ = W
 have B0 : Blk W w.heap.size 83 #[.int .u64 x0, .int .u64 x1, .int .u64 x2, .int .u64 x3, .int .u64 x4] := hW ▸ ((Blk.new w _ _).alloc _).alloc _
 have B1 : Blk W (w.heap.size + 1) 83 #[.int .u64 y0, .int .u64 y1, .int .u64 y2, .int .u64 y3, .int .u64 y4] := hW ▸ (size_alloc w _ ▸ Blk.new (w.alloc _) _ _).alloc _
 have B2 : Blk W (w.heap.size + 1 + 1) 83 #[.int .u64 0, .int .u64 0, .int .u64 0, .int .u64 0, .int .u64 0] := hW ▸ (by simpa [size_alloc] using Blk.new ((w.alloc _).alloc _) _ _)
 have BW : Below w.heap.size w W := hW ▸ (((Below.refl _ _).alloc (Nat.le_refl _) _).alloc (by simp) _).alloc (by simp; omega) _
 clear hW
 refine wp_region_still_tail 50 (by kernel_rfl) (by kernel_rfl) ?_
 simp only [List.take_succ_cons, List.take_zero, List.drop_succ_cons, List.drop_zero]
 change wpStill _ _ (World.drew W) (fun a' => wpList _ _ _ _ a' (World.drew W)) _ _
 generalize hV : World.drew W = V
 obtain ⟨d0, d1, d2, d3, d4⟩  := hV ▸ B0.drew.five
 obtain ⟨e0, e1, e2, e3, e4⟩  := hV ▸ B1.drew.five
 have BV : Blk V _ _ _ := hV ▸ B2.drew
 have BB := hV ▸ below_drew BW
 clear B0 B1 B2 BW hV W
 repeat still_step
 refine wpStill_nil ?_
 go_wp2_with fail
 refine (reduce_any _ _ _ _ _ n _ (by omega) (by omega) (by omega) (by omega) (by omega) (by omega) (by omega) (by omega) (by omega) (by omega) hn.out).mono ?_
 rintro e w1 ⟨rfl, hb⟩
 have B3 := BV.below hb BV.lt
 have hB := BB.trans (hb.mono BB.size)
 clear hb BB BV d0 d1 d2 d3 d4 e0 e1 e2 e3 e4
 go_wp2_with (refine wpList_store_row rfl 83 _ _ rfl (w.heap.size + 1 + 1) (El_cells _) rfl rfl 83 _ B3 (info_El _) rfl (El_one _) ?_)
 exact bodyPost_ret (results_cell_row rfl _ _ _ 83 _ (0, 0) _ rfl (B3.row _) Tryz.underlying83 rfl (info_El _)) rfl ⟨rfl, below_setRow hB (by omega) _⟩
theorem sub_any (a b : Nat) (w : World) (ha : a < pp) (hb : b < pp) : Calls Tryz.prog 94 #[El a, El b] w fun e w' => e = .returned (El ((a + (pp - b)) % pp)) ∧ Below w.heap.size w w' := by
 have hh : (a + pp + (pp - b)) % pp = (a + (pp - b)) % pp := by rw [Nat.add_right_comm, Nat.add_mod_right]
 rw [← hh]
 rw [pp_eq] at ha hb
 exact sub_parts _ _ _ _ _ _ _ _ _ _ (a + pp + (pp - b)) w (by omega) (by omega) (by omega) (by omega) (by omega) (by omega) (by omega) (by omega) (by omega) (by omega)
  (by omega) (by omega) (by omega) (by omega) (by omega) (by omega) (by omega) (by omega) (by omega) (by omega) (Lib.hid (by unfold val5; rw [pp_eq]; omega))
set_option maxHeartbeats 1000000 in
theorem small_any (n : Nat) (w : World) (hn : n < 4294967296) : Calls Tryz.prog 93 #[.int .u32 n] w fun e w' => e = .returned (El n) ∧ Below w.heap.size w w' := by
 go_enter Tryz.func93, Tryz.ntmps93
 go_wp2
 have hE : El n = .agg #[.int .u64 n, .int .u64 0, .int .u64 0, .int .u64 0, .int .u64 0] := (El_of n n 0 0 0 0 (by unfold val5; omega) (by omega) (by omega) (by decide) (by decide) (by decide) (by decide) (by decide) (by decide)).symm
 refine bodyPost_ret (v := El n) ?_ rfl ⟨rfl, ?_⟩
 · rw [hE]; simp [results, Tryz.results93, go_sem]
 · exact (Below.refl _ _).alloc (Nat.le_refl _) _
set_option maxHeartbeats 1000000 in
theorem neg_any (b : Nat) (w : World) (hb : b < pp) : Calls Tryz.prog 76 #[El b] w fun e w' => e = .returned (El ((pp - b) % pp)) ∧ Below w.heap.size w w' := by
 have hs := fun W => sub_any 0 b W pp_pos hb
 simp only [Nat.zero_add] at hs
 unfold El El_cells at hs ⊢
 have H := Lib.hid hs
 clear hs
 go_enter Tryz.func76, Tryz.ntmps76
 go_wp2_with fail
 refine (H.out _).mono ?_
 rintro e w1 ⟨rfl, hb⟩
 have B3 : Blk w1 (w.heap.size + 1) 83 #[.int .u64 0, .int .u64 0, .int .u64 0, .int .u64 0, .int .u64 0] := Blk.below (Blk.new' (size_alloc _ _).symm _ _) hb (by simp)
 have hB : Below w.heap.size w w1 := (((Below.refl w.heap.size w).alloc (Nat.le_refl _) _).alloc (by simp) _).trans (hb.mono (by simp; omega))
 clear hb
 go_wp2_with (refine wpList_store_row rfl 83 _ _ rfl (w.heap.size + 1) (El_cells _) rfl rfl 83 _ B3 (info_El _) rfl (El_one _) ?_)
 exact bodyPost_ret (results_cell_row rfl _ _ _ 83 _ (0, 0) _ rfl (B3.row _) Tryz.underlying83 rfl (info_El _)) rfl ⟨rfl, below_setRow hB (by omega) _⟩
end Go.Proofs.YtegbnadnodlalaaGreatDoor
namespace Go.Proofs.YtegbnadnodlalaaGreatDoor
open Go.RowKit
/-- What row does, without its words. -/
structure RowEq (T lo c : Int) : Prop where
 eq : T = lo + 2251799813685248 * c
theorem row_num (carry x0 x1 x2 x3 x4 y0 y1 y2 y3 y4 : Int)
  (p0 : 0 ≤ x0) (p1 : 0 ≤ x1) (p2 : 0 ≤ x2) (p3 : 0 ≤ x3) (p4 : 0 ≤ x4) (q0 : x0 < 2251799813685248) (q1 : x1 < 2251799813685248) (q2 : x2 < 2251799813685248) (q3 : x3 < 2251799813685248) (q4 : x4 < 2251799813685248)
  (r0 : 0 ≤ y0) (r1 : 0 ≤ y1) (r2 : 0 ≤ y2) (r3 : 0 ≤ y3) (r4 : 0 ≤ y4) (s0 : y0 ≤ 42784196460019712) (s1 : y1 ≤ 42784196460019712) (s2 : y2 ≤ 42784196460019712) (s3 : y3 ≤ 42784196460019712) (s4 : y4 ≤ 42784196460019712)
  (c0 : 0 ≤ carry) (c1 : carry < 18446744073709551616) :
  ∃ lo c : Int, RowEq (carry + x0 * y0 + x1 * y1 + x2 * y2 + x3 * y3 + x4 * y4) lo c ∧ 0 ≤ lo ∧ lo < 2251799813685248 ∧ 0 ≤ c ∧ c < 288230376151711744 := by
 have z0 := prod_le p0 r0 (Int.le_of_lt q0) s0
 have z1 := prod_le p1 r1 (Int.le_of_lt q1) s1
 have z2 := prod_le p2 r2 (Int.le_of_lt q2) s2
 have z3 := prod_le p3 r3 (Int.le_of_lt q3) s3
 have z4 := prod_le p4 r4 (Int.le_of_lt q4) s4
 simp only [Int.reduceMul] at z0 z1 z2 z3 z4
 exact ⟨(carry + x0 * y0 + x1 * y1 + x2 * y2 + x3 * y3 + x4 * y4) % 2251799813685248, (carry + x0 * y0 + x1 * y1 + x2 * y2 + x3 * y3 + x4 * y4) / 2251799813685248, ⟨by omega⟩, by omega, by omega, by omega, by omega⟩
theorem row_named {carry x0 x1 x2 x3 x4 y0 y1 y2 y3 y4 lo c : Int} (hR : RowEq (carry + x0 * y0 + x1 * y1 + x2 * y2 + x3 * y3 + x4 * y4) lo c) (l0 : 0 ≤ lo) (l1 : lo < 2251799813685248) (b : Nat) (w : World) (hx : Five w b x0 x1 x2 x3 x4)
  (p0 : 0 ≤ x0) (p1 : 0 ≤ x1) (p2 : 0 ≤ x2) (p3 : 0 ≤ x3) (p4 : 0 ≤ x4) (q0 : x0 < 2251799813685248) (q1 : x1 < 2251799813685248) (q2 : x2 < 2251799813685248) (q3 : x3 < 2251799813685248) (q4 : x4 < 2251799813685248)
  (r0 : 0 ≤ y0) (r1 : 0 ≤ y1) (r2 : 0 ≤ y2) (r3 : 0 ≤ y3) (r4 : 0 ≤ y4) (s0 : y0 ≤ 42784196460019712) (s1 : y1 ≤ 42784196460019712) (s2 : y2 ≤ 42784196460019712) (s3 : y3 ≤ 42784196460019712) (s4 : y4 ≤ 42784196460019712)
  (c0 : 0 ≤ carry) (c1 : carry < 18446744073709551616) :
  Calls Tryz.prog 86 #[.int .u64 carry, .pointer (some ⟨b, 0, none⟩), .int .u64 y0, .int .u64 y1, .int .u64 y2, .int .u64 y3, .int .u64 y4] w fun e w' => e = .returned (.tuple #[.int .u64 lo, .int .u64 c]) ∧ w = w' := by
 refine (row_any carry x0 x1 x2 x3 x4 y0 y1 y2 y3 y4 b w hx p0 p1 p2 p3 p4 q0 q1 q2 q3 q4 r0 r1 r2 r3 r4 s0 s1 s2 s3 s4 c0 c1).mono fun e w' ⟨he, hw⟩ => ⟨?_, hw⟩
 have h := hR.eq
 rw [he]
 exact ret2_int (by omega) (by omega)
/-- The memory of a call of Mul: both factors, the place of the result, what was there. -/
structure MulW (w W : World) (x0 x1 x2 x3 x4 y0 y1 y2 y3 y4 : Int) : Prop where
 x : Five W w.heap.size x0 x1 x2 x3 x4
 y : Five W (w.heap.size + 1) y0 y1 y2 y3 y4
 z : Blk W (w.heap.size + 1 + 1) 83 #[.int .u64 0, .int .u64 0, .int .u64 0, .int .u64 0, .int .u64 0]
 b : Below w.heap.size w W
theorem MulW.drewN {w W : World} {x0 x1 x2 x3 x4 y0 y1 y2 y3 y4 : Int} (h : MulW w W x0 x1 x2 x3 x4 y0 y1 y2 y3 y4) (n : Nat) : MulW w (W.drewN n) x0 x1 x2 x3 x4 y0 y1 y2 y3 y4 :=
 ⟨⟨h.x.c0, h.x.c1, h.x.c2, h.x.c3, h.x.c4⟩, ⟨h.y.c0, h.y.c1, h.y.c2, h.y.c3, h.y.c4⟩, h.z, below_drewN h.b n⟩
theorem quiet_left {P : Program} {f : FuncId} {args : Array Value} {w : World} {n : Nat} {v : Value}
  (h : Calls P f args (w.drewN n) fun e w' => e = .returned v ∧ w.drewN n = w') : Calls P f args (w.drewN n) fun e w'' => e = .returned v ∧ ∃ m, w'' = w.drewN m :=
 h.mono fun _ _ ⟨he, hw⟩ => ⟨he, n, hw.symm⟩
set_option maxHeartbeats 4000000 in
set_option maxRecDepth 100000 in
theorem mul_parts (x0 x1 x2 x3 x4 y0 y1 y2 y3 y4 : Int) (w : World)
  (p0 : 0 ≤ x0) (p1 : 0 ≤ x1) (p2 : 0 ≤ x2) (p3 : 0 ≤ x3) (p4 : 0 ≤ x4) (q0 : x0 < 2251799813685248) (q1 : x1 < 2251799813685248) (q2 : x2 < 2251799813685248) (q3 : x3 < 2251799813685248) (q4 : x4 < 2251799813685248)
  (r0 : 0 ≤ y0) (r1 : 0 ≤ y1) (r2 : 0 ≤ y2) (r3 : 0 ≤ y3) (r4 : 0 ≤ y4) (s0 : y0 < 2251799813685248) (s1 : y1 < 2251799813685248) (s2 : y2 < 2251799813685248) (s3 : y3 < 2251799813685248) (s4 : y4 < 2251799813685248) :
  Calls Tryz.prog 60 #[.agg #[.int .u64 x0, .int .u64 x1, .int .u64 x2, .int .u64 x3, .int .u64 x4], .agg #[.int .u64 y0, .int .u64 y1, .int .u64 y2, .int .u64 y3, .int .u64 y4]] w fun e w' =>
   ∃ n : Nat, (n : Int) = (val5 x0 x1 x2 x3 x4 * val5 y0 y1 y2 y3 y4) % 57896044618658097711785492504343953926634992332820282019728792003956564819949 ∧ e = .returned (El n) ∧ Below w.heap.size w w' := by
 go_enter Tryz.func60, Tryz.ntmps60
 go_wp2
 generalize hW : World.alloc (World.alloc (World.alloc w _) _) _ = W
 have F0 : MulW w W x0 x1 x2 x3 x4 y0 y1 y2 y3 y4 := by
  subst hW
  refine ⟨Blk.five (((Blk.new w _ _).alloc _).alloc _), Blk.five ((Blk.new' (size_alloc w _).symm _ _).alloc _), Blk.new' (by simp) _ _, (((Below.refl _ _).alloc (Nat.le_refl _) _).alloc (by simp) _).alloc (by simp; omega) _⟩
 clear hW
 obtain ⟨e0, e1, e2, e3, e4⟩ := F0.y
 go_quiet (fail)
 have F := F0.drewN nq
 clear F0 e0 e1 e2 e3 e4
 generalize World.drewN W nq = W1 at F ⊢
 clear W
 obtain ⟨e0, e1, e2, e3, e4⟩ := F.y
 obtain ⟨l0, c0, R0, t0, t0', u0, u0'⟩ := row_num 0 x0 x1 x2 x3 x4 y0 (19 * y4) (19 * y3) (19 * y2) (19 * y1) p0 p1 p2 p3 p4 q0 q1 q2 q3 q4 (by omega) (by omega) (by omega) (by omega) (by omega) (by omega) (by omega) (by omega) (by omega) (by omega) (by omega) (by omega)
 go_wp2_with fail
 refine (row_named R0 t0 t0' _ _ F.x p0 p1 p2 p3 p4 q0 q1 q2 q3 q4 (by omega) (by omega) (by omega) (by omega) (by omega) (by omega) (by omega) (by omega) (by omega) (by omega) (by omega) (by omega)).mono ?_
 rintro e w1 ⟨rfl, rfl⟩
 go_wp2
 obtain ⟨l1, c1, R1, t1, t1', u1, u1'⟩ := row_num c0 x0 x1 x2 x3 x4 y1 y0 (19 * y4) (19 * y3) (19 * y2) p0 p1 p2 p3 p4 q0 q1 q2 q3 q4 (by omega) (by omega) (by omega) (by omega) (by omega) (by omega) (by omega) (by omega) (by omega) (by omega) (by omega) (by omega)
 go_quiet ((go_at_call 86; exact quiet_left (row_named R1 t1 t1' _ _ (F.drewN _).x p0 p1 p2 p3 p4 q0 q1 q2 q3 q4 (by omega) (by omega) (by omega) (by omega) (by omega) (by omega) (by omega) (by omega) (by omega) (by omega) (by omega) (by omega))))
 have F1 := F.drewN nq
 clear F e0 e1 e2 e3 e4
 generalize World.drewN _ nq = W2 at F1 ⊢
 obtain ⟨e0, e1, e2, e3, e4⟩ := F1.y
 go_wp2_with fail
 obtain ⟨l2, c2, R2, t2, t2', u2, u2'⟩ := row_num c1 x0 x1 x2 x3 x4 y2 y1 y0 (19 * y4) (19 * y3) p0 p1 p2 p3 p4 q0 q1 q2 q3 q4 (by omega) (by omega) (by omega) (by omega) (by omega) (by omega) (by omega) (by omega) (by omega) (by omega) (by omega) (by omega)
 go_quiet ((go_at_call 86; exact quiet_left (row_named R2 t2 t2' _ _ (F1.drewN _).x p0 p1 p2 p3 p4 q0 q1 q2 q3 q4 (by omega) (by omega) (by omega) (by omega) (by omega) (by omega) (by omega) (by omega) (by omega) (by omega) (by omega) (by omega))))
 have F2 := F1.drewN nq
 clear F1 e0 e1 e2 e3 e4
 generalize World.drewN _ nq = W3 at F2 ⊢
 obtain ⟨e0, e1, e2, e3, e4⟩ := F2.y
 go_wp2_with fail
 obtain ⟨l3, c3, R3, t3, t3', u3, u3'⟩ := row_num c2 x0 x1 x2 x3 x4 y3 y2 y1 y0 (19 * y4) p0 p1 p2 p3 p4 q0 q1 q2 q3 q4 (by omega) (by omega) (by omega) (by omega) (by omega) (by omega) (by omega) (by omega) (by omega) (by omega) (by omega) (by omega)
 go_quiet ((go_at_call 86; exact quiet_left (row_named R3 t3 t3' _ _ (F2.drewN _).x p0 p1 p2 p3 p4 q0 q1 q2 q3 q4 (by omega) (by omega) (by omega) (by omega) (by omega) (by omega) (by omega) (by omega) (by omega) (by omega) (by omega) (by omega))))
 have F3 := F2.drewN nq
 clear F2 e0 e1 e2 e3 e4
 generalize World.drewN _ nq = W4 at F3 ⊢
 obtain ⟨e0, e1, e2, e3, e4⟩ := F3.y
 go_wp2_with fail
 obtain ⟨l4, c4, R4, t4, t4', u4, u4'⟩ := row_num c3 x0 x1 x2 x3 x4 y4 y3 y2 y1 y0 p0 p1 p2 p3 p4 q0 q1 q2 q3 q4 (by omega) (by omega) (by omega) (by omega) (by omega) (by omega) (by omega) (by omega) (by omega) (by omega) (by omega) (by omega)
 go_quiet ((go_at_call 86; exact quiet_left (row_named R4 t4 t4' _ _ (F3.drewN _).x p0 p1 p2 p3 p4 q0 q1 q2 q3 q4 (by omega) (by omega) (by omega) (by omega) (by omega) (by omega) (by omega) (by omega) (by omega) (by omega) (by omega) (by omega))))
 have F4 := F3.drewN nq
 clear F3 e0 e1 e2 e3 e4
 generalize World.drewN _ nq = W5 at F4 ⊢
 obtain ⟨e0, e1, e2, e3, e4⟩ := F4.y
 go_wp2_with fail
 have hm := mul_num x0 x1 x2 x3 x4 y0 y1 y2 y3 y4 l0 l1 l2 l3 l4 c0 c1 c2 c3 c4 (by have := R0.eq; omega) R1.eq R2.eq R3.eq R4.eq
 have hv : 0 ≤ val5 (l0 + 19 * c4) l1 l2 l3 l4 := by unfold val5; omega
 have H := Lib.hid hm
 clear hm
 refine (reduce_any _ _ _ _ _ (val5 (l0 + 19 * c4) l1 l2 l3 l4).toNat _ (by omega) (by omega) (by omega) (by omega) (by omega) (by omega) (by omega) (by omega) (by omega) (by omega) (Int.toNat_of_nonneg hv).symm).mono ?_
 rintro e w1 ⟨rfl, hb⟩
 have B3 := F4.z.below hb F4.z.lt
 have hB := F4.b.trans (hb.mono F4.b.size)
 clear hb F4 e0 e1 e2 e3 e4
 go_wp2_with (refine wpList_store_row rfl 83 _ _ rfl (w.heap.size + 1 + 1) (El_cells _) rfl rfl 83 _ B3 (info_El _) rfl (El_one _) ?_)
 refine bodyPost_ret (results_cell_row rfl _ _ _ 83 _ (0, 0) _ rfl (B3.row _) Tryz.underlying83 rfl (info_El _)) rfl ⟨_, ?_, rfl, below_setRow hB (by omega) _⟩
 rw [H.out, Int.add_mul_emod_self_left, Int.natCast_emod, Int.toNat_of_nonneg hv, pp_eq]
 rfl
theorem val_El (a : Nat) : val5 ((a : Int) % 2251799813685248) ((a : Int) / 2251799813685248 % 2251799813685248) ((a : Int) / 5070602400912917605986812821504 % 2251799813685248) ((a : Int) / 11417981541647679048466287755595961091061972992 % 2251799813685248) ((a : Int) / 25711008708143844408671393477458601640355247900524685364822016) = a := by
 unfold val5; omega
theorem mul_any (a b : Nat) (w : World) (ha : a < pp) (hb : b < pp) : Calls Tryz.prog 60 #[El a, El b] w fun e w' => e = .returned (El (a * b % pp)) ∧ Below w.heap.size w w' := by
 rw [pp_eq] at ha hb
 refine (mul_parts _ _ _ _ _ _ _ _ _ _ w (by omega) (by omega) (by omega) (by omega) (by omega) (by omega) (by omega) (by omega) (by omega) (by omega)
  (by omega) (by omega) (by omega) (by omega) (by omega) (by omega) (by omega) (by omega) (by omega) (by omega)).mono ?_
 rintro e w' ⟨n, hn, rfl, hB⟩
 rw [val_El, val_El] at hn
 have : n = a * b % pp := by
  apply Int.ofNat_inj.1
  rw [Int.natCast_emod, Int.natCast_mul, pp_eq]
  exact hn
 rw [this]
 exact ⟨rfl, hB⟩
end Go.Proofs.YtegbnadnodlalaaGreatDoor
namespace Go.Proofs.YtegbnadnodlalaaGreatDoor
open Go.RowKit
/-- The cells of an array of integers. -/
def Iv (k : IntKind) (l : List Int) : Array Value := (l.map (Value.int k)).toArray
theorem Iv_size (k : IntKind) (l : List Int) : (Iv k l).size = l.length := by simp [Iv]
theorem Iv_get (k : IntKind) (l : List Int) (i : Nat) (h : i < l.length) : (Iv k l)[i]? = some (.int k (l.getD i 0)) := by simp [Iv, h]
theorem Iv_one (k : IntKind) (l : List Int) : (Iv k l).all (·.oneCell') = true := by simp [Iv, Value.oneCell']
theorem Iv_set (k : IntKind) (l : List Int) (i : Nat) (v : Int) : (Iv k l).setIfInBounds i (.int k v) = Iv k (l.set i v) := by
 simp [Iv, List.map_set]
/-- The first k of n numbers are written, the others are 0. -/
def fill (n : Nat) (f : Nat → Int) (k : Nat) : List Int := (List.range n).map fun i => if i < k then f i else 0
theorem fill_length (n : Nat) (f : Nat → Int) (k : Nat) : (fill n f k).length = n := by simp [fill]
theorem fill_set (n : Nat) (f : Nat → Int) (k : Nat) : (fill n f k).set k (f k) = fill n f (k + 1) := by
 apply List.ext_getElem (by simp [fill])
 intro i h1 h2
 simp only [fill, List.length_map, List.length_range] at h2
 simp only [fill, List.getElem_set, List.getElem_map, List.getElem_range]
 by_cases h : k = i
 · subst h; simp
 ·
  rw [if_neg h]
  by_cases h3 : i < k
  · rw [if_pos h3, if_pos (by omega)]
  · rw [if_neg h3, if_neg (by omega)]
theorem fill_full (n : Nat) (f : Nat → Int) : fill n f n = (List.range n).map f := by
 apply List.map_congr_left
 intro i hi
 rw [if_pos (by simpa using hi)]
theorem fill_getD (n : Nat) (f : Nat → Int) (k i : Nat) (h : i < n) : (fill n f k).getD i 0 = if i < k then f i else 0 := by simp [fill, h]
section
variable {P : Program}
theorem run_eqItems_int (w : World) (d : Nat) {e : TypeId} {k k' : IntKind} (he : P.underlying e = some (.int k')) (hp : P.plainKey e = true) (xs ys : Array Value) (f g : Nat → Int) : ∀ is : List Nat,
  (∀ i ∈ is, xs[i]? = some (.int k (f i))) → (∀ i ∈ is, ys[i]? = some (.int k (g i))) → (Op.eqItems (d + 1) e 1 xs ys is).run P w = .ok (is.all fun i => f i == g i) w
 | [], _, _ => by simp [Op.eqItems]
 | i :: is, hx, hy => by
  have ih := run_eqItems_int w d he hp xs ys f g is (fun j hj => hx j (by simp [hj])) (fun j hj => hy j (by simp [hj]))
  have h1 := run_part_plain w hp (off := i * 1) (by rw [Nat.mul_one]; exact hx i (by simp))
  have h2 := run_part_plain w hp (off := i * 1) (by rw [Nat.mul_one]; exact hy i (by simp))
  simp only [Op.eqItems, Sem.run_bind, h1, h2, Result.andThen_ok, run_equalIn_int w d e k k' (f i) (g i) he, List.all_cons]
  by_cases h : f i = g i
  · simp [h, ih]
  · simp [h]
theorem run_eq_ints (w : World) (d : Nat) {t e : TypeId} {n : Nat} {i : TypeInfo} {k k' : IntKind} (hu : P.underlying t = some (.array n e)) (hi : P.info? e = some i) (he : P.underlying e = some (.int k')) (hp : P.plainKey e = true) (hc : P.cellsOf e = 1)
  (l1 l2 : List Int) (h1 : l1.length = n) (h2 : l2.length = n) : (Op.equalIn (d + 2) t (.agg (Iv k l1)) (.agg (Iv k l2))).run P w = .ok (decide (l1 = l2)) w := by
 rw [run_equalIn_array w (d + 1) _ _ hu hi, hc, run_eqItems_int w d he hp (k := k) _ _ (fun i => l1.getD i 0) (fun i => l2.getD i 0) (List.range n) (fun i hi => Iv_get k l1 i (by simp at hi; omega)) (fun i hi => Iv_get k l2 i (by simp at hi; omega))]
 congr 1
 rw [Bool.eq_iff_iff, List.all_eq_true, decide_eq_true_iff]
 constructor
 ·
  intro h
  apply List.ext_getElem (by omega)
  intro j hj1 hj2
  have := h j (by simp; omega)
  simpa [hj1, hj2] using this
 ·
  rintro rfl j _
  simp
end
end Go.Proofs.YtegbnadnodlalaaGreatDoor
namespace Go.Proofs.YtegbnadnodlalaaGreatDoor
open Go.RowKit
theorem eq_keys (l1 l2 : List Int) (h1 : l1.length = 32) (h2 : l2.length = 32) (w : World) :
  (Op.equalIn 10000 23 (.agg (Iv .u8 l1)) (.agg (Iv .u8 l2))).run Tryz.prog w = .ok (decide (l1 = l2)) w := by
 obtain ⟨i, hi⟩ : ∃ i, Tryz.prog.info? 5 = some i := info_of_underlying Tryz.underlying5
 exact run_eq_ints w 9998 (n := 32) (e := 5) Tryz.underlying23 hi Tryz.underlying5 (by kernel_rfl) (by kernel_rfl) l1 l2 h1 h2
theorem eql_keys (l1 l2 : List Int) (h1 : l1.length = 32) (h2 : l2.length = 32) (w : World) :
  (binOp .eql 23 (.agg (Iv .u8 l1)) (.agg (Iv .u8 l2))).run Tryz.prog w = .ok (.bool (decide (l1 = l2))) w := by
 rw [run_eql_struct, eq_keys l1 l2 h1 h2]
 rfl
theorem eq_parts (l1 l2 : List Int) (h1 : l1.length = 5) (h2 : l2.length = 5) (w : World) :
  (binOp .eql 83 (.agg (Iv .u64 l1)) (.agg (Iv .u64 l2))).run Tryz.prog w = .ok (.bool (decide (l1 = l2))) w := by
 obtain ⟨i, hi⟩ : ∃ i, Tryz.prog.info? 26 = some i := info_of_underlying Tryz.underlying26
 have h := run_eq_ints w 9997 (k := .u64) (n := 5) (t := 81) (e := 26) Tryz.underlying81 hi Tryz.underlying26 (by kernel_rfl) (by kernel_rfl) l1 l2 h1 h2
 have hf : (Tryz.prog.fieldsOf 83).toList = [{ name := "parts", type := 81, offset := 0, embedded := false, tag := "", pkgPath := "skiff/field", byteOffset := 0 }] := by kernel_rfl
 have p : ∀ l : List Int, l.length = 5 → (part 81 (Iv .u64 l) 0).run Tryz.prog w = .ok (.agg (Iv .u64 l)) w := by
  intro l hl
  obtain ⟨j, hj⟩ : ∃ i, Tryz.prog.info? 81 = some i := info_of_underlying Tryz.underlying81
  have hs : j.size = 5 := by
   have : (Tryz.prog.info? 81).map (·.size) = some 5 := by kernel_rfl
   rw [hj] at this
   simpa using this
  have ha : (isAgg 81).run Tryz.prog w = .ok true w := by
   unfold isAgg
   rw [Sem.run_bind, run_underlying Tryz.underlying81 w]
   rfl
  simp only [part, Sem.run_bind, ha, Result.andThen_ok, if_true, sizeOf, typeInfo]
  simp [hj, hs]
  exact .inr (by rw [Iv_size]; omega)
 rw [run_eql_struct, run_equalIn_struct w 9999 83 _ _ (by kernel_rfl) (by kernel_rfl), hf]
 have h' : (Op.equalIn 9999 81 (.agg (Iv .u64 l1)) (.agg (Iv .u64 l2))).run Tryz.prog w = .ok (decide (l1 = l2)) w := h
 simp only [Op.eqFields, Sem.run_bind, Sem.run_ite, p l1 h1, p l2 h2, h', Result.andThen_ok]
 cases decide (l1 = l2) <;> simp
theorem El_Iv (n : Nat) : El_cells n = Iv .u64 [(n : Int) % 2251799813685248, (n : Int) / 2251799813685248 % 2251799813685248, (n : Int) / 5070602400912917605986812821504 % 2251799813685248, (n : Int) / 11417981541647679048466287755595961091061972992 % 2251799813685248, (n : Int) / 25711008708143844408671393477458601640355247900524685364822016] := rfl
theorem eq_El (a b : Nat) (w : World) : (binOp .eql 83 (.agg (El_cells a)) (.agg (El_cells b))).run Tryz.prog w = .ok (.bool (decide (a = b))) w := by
 rw [El_Iv, El_Iv, eq_parts _ _ rfl rfl]
 congr 2
 apply decide_eq_decide.2
 constructor
 ·
  intro h
  simp only [List.cons.injEq] at h
  omega
 · rintro rfl; rfl
set_option maxHeartbeats 1000000 in
theorem same_any (a b : Nat) (w : World) : Calls Tryz.prog 107 #[El a, El b] w fun e w' => e = .returned (.bool (decide (a = b))) ∧ Below w.heap.size w w' := by
 have hq := fun W => eq_El a b W
 unfold El_cells at hq
 unfold El El_cells
 go_enter Tryz.func107, Tryz.ntmps107
 go_wp2
 go_ret
 exact ⟨rfl, ((Below.refl _ _).alloc (Nat.le_refl _) _).alloc (by simp) _⟩
set_option maxHeartbeats 1000000 in
theorem zero_any (a : Nat) (w : World) : Calls Tryz.prog 75 #[El a] w fun e w' => e = .returned (.bool (decide (a = 0))) ∧ Below w.heap.size w w' := by
 have hq := fun W => eq_El a 0 W
 change ∀ W, (binOp .eql 83 (.agg (El_cells a)) (.agg #[.int .u64 0, .int .u64 0, .int .u64 0, .int .u64 0, .int .u64 0])).run _ W = _ at hq
 unfold El_cells at hq
 unfold El El_cells
 go_enter Tryz.func75, Tryz.ntmps75
 go_wp2
 go_ret
 exact ⟨rfl, (Below.refl _ _).alloc (Nat.le_refl _) _⟩
theorem ret_bool {a b : Bool} (h : a = b) : Ending.returned (.bool a) = .returned (.bool b) := by rw [h]
theorem and1 (x : Int) (h0 : 0 ≤ x) (h1 : x < 18446744073709551616) : bits .and .u64 x 1 = x % 2 := by
 obtain ⟨n, rfl⟩ := Int.eq_ofNat_of_zero_le h0
 have h := bits_and_u64_nat n 1 (by omega) (by omega)
 have e : n &&& 1 = n % 2 := Nat.and_two_pow_sub_one_eq_mod n 1
 rw [e] at h
 exact h
set_option maxHeartbeats 1000000 in
theorem odd_any (a : Nat) (w : World) : Calls Tryz.prog 62 #[El a] w fun e w' => e = .returned (.bool (decide (a % 2 = 1))) ∧ Below w.heap.size w w' := by
 unfold El El_cells
 go_enter Tryz.func62, Tryz.ntmps62
 go_wp2
 go_ret
 refine ⟨?_, (Below.refl _ _).alloc (Nat.le_refl _) _⟩
 have e : (bits .and .u64 ((a : Int) % 2251799813685248) 1 == 1) = decide (a % 2 = 1) := by
  rw [and1 _ (by omega) (by omega), Bool.eq_iff_iff, beq_iff_eq, decide_eq_true_iff]
  omega
 exact ret_bool e
end Go.Proofs.YtegbnadnodlalaaGreatDoor
