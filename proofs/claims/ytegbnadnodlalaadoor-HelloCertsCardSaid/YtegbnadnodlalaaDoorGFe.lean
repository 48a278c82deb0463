/- The contract of field.Mul: the product modulo 2^255 - 19; nothing that was there turns. -/
import Derived.Test.YtegbnadnodlalaaDoorGFa0GFd
namespace Go.Proofs.YtegbnadnodlalaaDoor
open Go.RowKit
/-- What row does, without its words. -/
structure RowEq (T lo c : Int) : Prop where
  eq : T = lo + 2251799813685248 * c
theorem row_num (carry x0 x1 x2 x3 x4 y0 y1 y2 y3 y4 : Int)
    (p0 : 0 ≤ x0) (p1 : 0 ≤ x1) (p2 : 0 ≤ x2) (p3 : 0 ≤ x3) (p4 : 0 ≤ x4) (q0 : x0 < 2251799813685248) (q1 : x1 < 2251799813685248) (q2 : x2 < 2251799813685248) (q3 : x3 < 2251799813685248) (q4 : x4 < 2251799813685248)
    (r0 : 0 ≤ y0) (r1 : 0 ≤ y1) (r2 : 0 ≤ y2) (r3 : 0 ≤ y3) (r4 : 0 ≤ y4) (s0 : y0 ≤ 42784196460019712) (s1 : y1 ≤ 42784196460019712) (s2 : y2 ≤ 42784196460019712) (s3 : y3 ≤ 42784196460019712) (s4 : y4 ≤ 42784196460019712)
    (c0 : 0 ≤ carry) (c1 : carry < 18446744073709551616) :
    ∃ lo c : Int, RowEq (carry + x0 * y0 + x1 * y1 + x2 * y2 + x3 * y3 + x4 * y4) lo c ∧ 0 ≤ lo ∧ lo < 2251799813685248 ∧ 0 ≤ c ∧ c < 288230376151711744 := by
  have z0 := prod_le p0 r0 (Int.le_of_lt q0) s0
  have z1 := prod_le p1 r1 (Int.le_of_lt q1) s1
  have z2 := prod_le p2 r2 (Int.le_of_lt q2) s2
  have z3 := prod_le p3 r3 (Int.le_of_lt q3) s3
  have z4 := prod_le p4 r4 (Int.le_of_lt q4) s4
  simp only [Int.reduceMul] at z0 z1 z2 z3 z4
  exact ⟨(carry + x0 * y0 + x1 * y1 + x2 * y2 + x3 * y3 + x4 * y4) % 2251799813685248, (carry + x0 * y0 + x1 * y1 + x2 * y2 + x3 * y3 + x4 * y4) / 2251799813685248, ⟨by omega⟩, by omega, by omega, by omega, by omega⟩
theorem row_named {carry x0 x1 x2 x3 x4 y0 y1 y2 y3 y4 lo c : Int} (hR : RowEq (carry + x0 * y0 + x1 * y1 + x2 * y2 + x3 * y3 + x4 * y4) lo c) (l0 : 0 ≤ lo) (l1 : lo < 2251799813685248) (b : Nat) (w : World) (hx : Five w b x0 x1 x2 x3 x4)
    (p0 : 0 ≤ x0) (p1 : 0 ≤ x1) (p2 : 0 ≤ x2) (p3 : 0 ≤ x3) (p4 : 0 ≤ x4) (q0 : x0 < 2251799813685248) (q1 : x1 < 2251799813685248) (q2 : x2 < 2251799813685248) (q3 : x3 < 2251799813685248) (q4 : x4 < 2251799813685248)
    (r0 : 0 ≤ y0) (r1 : 0 ≤ y1) (r2 : 0 ≤ y2) (r3 : 0 ≤ y3) (r4 : 0 ≤ y4) (s0 : y0 ≤ 42784196460019712) (s1 : y1 ≤ 42784196460019712) (s2 : y2 ≤ 42784196460019712) (s3 : y3 ≤ 42784196460019712) (s4 : y4 ≤ 42784196460019712)
    (c0 : 0 ≤ carry) (c1 : carry < 18446744073709551616) :
    Calls Tryd.prog 79 #[.int .u64 carry, .pointer (some ⟨b, 0, none⟩), .int .u64 y0, .int .u64 y1, .int .u64 y2, .int .u64 y3, .int .u64 y4] w fun e w' => e = .returned (.tuple #[.int .u64 lo, .int .u64 c]) ∧ w = w' := by
  refine (row_any carry x0 x1 x2 x3 x4 y0 y1 y2 y3 y4 b w hx p0 p1 p2 p3 p4 q0 q1 q2 q3 q4 r0 r1 r2 r3 r4 s0 s1 s2 s3 s4 c0 c1).mono fun e w' ⟨he, hw⟩ => ⟨?_, hw⟩
  have h := hR.eq
  rw [he]
  exact ret2_int (by omega) (by omega)
/-- The memory of a call of Mul: both factors, the place of the result, what was there. -/
structure MulW (w W : World) (x0 x1 x2 x3 x4 y0 y1 y2 y3 y4 : Int) : Prop where
  x : Five W w.heap.size x0 x1 x2 x3 x4
  y : Five W (w.heap.size + 1) y0 y1 y2 y3 y4
  z : Blk W (w.heap.size + 1 + 1) 78 #[.int .u64 0, .int .u64 0, .int .u64 0, .int .u64 0, .int .u64 0]
  b : Below w.heap.size w W
theorem MulW.drewN {w W : World} {x0 x1 x2 x3 x4 y0 y1 y2 y3 y4 : Int} (h : MulW w W x0 x1 x2 x3 x4 y0 y1 y2 y3 y4) (n : Nat) : MulW w (W.drewN n) x0 x1 x2 x3 x4 y0 y1 y2 y3 y4 :=
  ⟨⟨h.x.c0, h.x.c1, h.x.c2, h.x.c3, h.x.c4⟩, ⟨h.y.c0, h.y.c1, h.y.c2, h.y.c3, h.y.c4⟩, h.z, below_drewN h.b n⟩
theorem quiet_left {P : Program} {f : FuncId} {args : Array Value} {w : World} {n : Nat} {v : Value}
    (h : Calls P f args (w.drewN n) fun e w' => e = .returned v ∧ w.drewN n = w') : Calls P f args (w.drewN n) fun e w'' => e = .returned v ∧ ∃ m, w'' = w.drewN m :=
  h.mono fun _ _ ⟨he, hw⟩ => ⟨he, n, hw.symm⟩
set_option maxHeartbeats 4000000 in
set_option maxRecDepth 100000 in
theorem mul_parts (x0 x1 x2 x3 x4 y0 y1 y2 y3 y4 : Int) (w : World)
    (p0 : 0 ≤ x0) (p1 : 0 ≤ x1) (p2 : 0 ≤ x2) (p3 : 0 ≤ x3) (p4 : 0 ≤ x4) (q0 : x0 < 2251799813685248) (q1 : x1 < 2251799813685248) (q2 : x2 < 2251799813685248) (q3 : x3 < 2251799813685248) (q4 : x4 < 2251799813685248)
    (r0 : 0 ≤ y0) (r1 : 0 ≤ y1) (r2 : 0 ≤ y2) (r3 : 0 ≤ y3) (r4 : 0 ≤ y4) (s0 : y0 < 2251799813685248) (s1 : y1 < 2251799813685248) (s2 : y2 < 2251799813685248) (s3 : y3 < 2251799813685248) (s4 : y4 < 2251799813685248) :
    Calls Tryd.prog 56 #[.agg #[.int .u64 x0, .int .u64 x1, .int .u64 x2, .int .u64 x3, .int .u64 x4], .agg #[.int .u64 y0, .int .u64 y1, .int .u64 y2, .int .u64 y3, .int .u64 y4]] w fun e w' =>
      ∃ n : Nat, (n : Int) = (val5 x0 x1 x2 x3 x4 * val5 y0 y1 y2 y3 y4) % 57896044618658097711785492504343953926634992332820282019728792003956564819949 ∧ e = .returned (El n) ∧ Below w.heap.size w w' := by
  go_enter Tryd.func56, Tryd.ntmps56
  go_wp2
  generalize hW : World.alloc (World.alloc (World.alloc w _) _) _ = W
  have F0 : MulW w W x0 x1 x2 x3 x4 y0 y1 y2 y3 y4 := by
    subst hW
    refine ⟨Blk.five (((Blk.new w _ _).alloc _).alloc _), Blk.five ((Blk.new' (size_alloc w _).symm _ _).alloc _), Blk.new' (by simp) _ _, (((Below.refl _ _).alloc (Nat.le_refl _) _).alloc (by simp) _).alloc (by simp; omega) _⟩
  clear hW
  obtain ⟨e0, e1, e2, e3, e4⟩ := F0.y
  go_quiet (fail)
  have F := F0.drewN nq
  clear F0 e0 e1 e2 e3 e4
  generalize World.drewN W nq = W1 at F ⊢
  clear W
  obtain ⟨e0, e1, e2, e3, e4⟩ := F.y
  obtain ⟨l0, c0, R0, t0, t0', u0, u0'⟩ := row_num 0 x0 x1 x2 x3 x4 y0 (19 * y4) (19 * y3) (19 * y2) (19 * y1) p0 p1 p2 p3 p4 q0 q1 q2 q3 q4 (by omega) (by omega) (by omega) (by omega) (by omega) (by omega) (by omega) (by omega) (by omega) (by omega) (by omega) (by omega)
  go_wp2_with fail
  refine (row_named R0 t0 t0' _ _ F.x p0 p1 p2 p3 p4 q0 q1 q2 q3 q4 (by omega) (by omega) (by omega) (by omega) (by omega) (by omega) (by omega) (by omega) (by omega) (by omega) (by omega) (by omega)).mono ?_
  rintro e w1 ⟨rfl, rfl⟩
  go_wp2
  obtain ⟨l1, c1, R1, t1, t1', u1, u1'⟩ := row_num c0 x0 x1 x2 x3 x4 y1 y0 (19 * y4) (19 * y3) (19 * y2) p0 p1 p2 p3 p4 q0 q1 q2 q3 q4 (by omega) (by omega) (by omega) (by omega) (by omega) (by omega) (by omega) (by omega) (by omega) (by omega) (by omega) (by omega)
  go_quiet ((go_at_call 79; exact quiet_left (row_named R1 t1 t1' _ _ (F.drewN _).x p0 p1 p2 p3 p4 q0 q1 q2 q3 q4 (by omega) (by omega) (by omega) (by omega) (by omega) (by omega) (by omega) (by omega) (by omega) (by omega) (by omega) (by omega))))
  have F1 := F.drewN nq
  clear F e0 e1 e2 e3 e4
  generalize World.drewN _ nq = W2 at F1 ⊢
  obtain ⟨e0, e1, e2, e3, e4⟩ := F1.y
  go_wp2_with fail
  obtain ⟨l2, c2, R2, t2, t2', u2, u2'⟩ := row_num c1 x0 x1 x2 x3 x4 y2 y1 y0 (19 * y4) (19 * y3) p0 p1 p2 p3 p4 q0 q1 q2 q3 q4 (by omega) (by omega) (by omega) (by omega) (by omega) (by omega) (by omega) (by omega) (by omega) (by omega) (by omega) (by omega)
  go_quiet ((go_at_call 79; exact quiet_left (row_named R2 t2 t2' _ _ (F1.drewN _).x p0 p1 p2 p3 p4 q0 q1 q2 q3 q4 (by omega) (by omega) (by omega) (by omega) (by omega) (by omega) (by omega) (by omega) (by omega) (by omega) (by omega) (by omega))))
  have F2 := F1.drewN nq
  clear F1 e0 e1 e2 e3 e4
  generalize World.drewN _ nq = W3 at F2 ⊢
  obtain ⟨e0, e1, e2, e3, e4⟩ := F2.y
  go_wp2_with fail
  obtain ⟨l3, c3, R3, t3, t3', u3, u3'⟩ := row_num c2 x0 x1 x2 x3 x4 y3 y2 y1 y0 (19 * y4) p0 p1 p2 p3 p4 q0 q1 q2 q3 q4 (by omega) (by omega) (by omega) (by omega) (by omega) (by omega) (by omega) (by omega) (by omega) (by omega) (by omega) (by omega)
  go_quiet ((go_at_call 79; exact quiet_left (row_named R3 t3 t3' _ _ (F2.drewN _).x p0 p1 p2 p3 p4 q0 q1 q2 q3 q4 (by omega) (by omega) (by omega) (by omega) (by omega) (by omega) (by omega) (by omega) (by omega) (by omega) (by omega) (by omega))))
  have F3 := F2.drewN nq
  clear F2 e0 e1 e2 e3 e4
  generalize World.drewN _ nq = W4 at F3 ⊢
  obtain ⟨e0, e1, e2, e3, e4⟩ := F3.y
  go_wp2_with fail
  obtain ⟨l4, c4, R4, t4, t4', u4, u4'⟩ := row_num c3 x0 x1 x2 x3 x4 y4 y3 y2 y1 y0 p0 p1 p2 p3 p4 q0 q1 q2 q3 q4 (by omega) (by omega) (by omega) (by omega) (by omega) (by omega) (by omega) (by omega) (by omega) (by omega) (by omega) (by omega)
  go_quiet ((go_at_call 79; exact quiet_left (row_named R4 t4 t4' _ _ (F3.drewN _).x p0 p1 p2 p3 p4 q0 q1 q2 q3 q4 (by omega) (by omega) (by omega) (by omega) (by omega) (by omega) (by omega) (by omega) (by omega) (by omega) (by omega) (by omega))))
  have F4 := F3.drewN nq
  clear F3 e0 e1 e2 e3 e4
  generalize World.drewN _ nq = W5 at F4 ⊢
  obtain ⟨e0, e1, e2, e3, e4⟩ := F4.y
  go_wp2_with fail
  have hm := mul_num x0 x1 x2 x3 x4 y0 y1 y2 y3 y4 l0 l1 l2 l3 l4 c0 c1 c2 c3 c4 (by have := R0.eq; omega) R1.eq R2.eq R3.eq R4.eq
  have hv : 0 ≤ val5 (l0 + 19 * c4) l1 l2 l3 l4 := by unfold val5; omega
  have H := Lib.hid hm
  clear hm
  refine (reduce_any _ _ _ _ _ (val5 (l0 + 19 * c4) l1 l2 l3 l4).toNat _ (by omega) (by omega) (by omega) (by omega) (by omega) (by omega) (by omega) (by omega) (by omega) (by omega) (Int.toNat_of_nonneg hv).symm).mono ?_
  rintro e w1 ⟨rfl, hb⟩
  have B3 := F4.z.below hb F4.z.lt
  have hB := F4.b.trans (hb.mono F4.b.size)
  clear hb F4 e0 e1 e2 e3 e4
  go_wp2_with (refine wpList_store_row rfl 78 _ _ rfl (w.heap.size + 1 + 1) (El_cells _) rfl rfl 78 _ B3 (info_El _) rfl (El_one _) ?_)
  refine bodyPost_ret (results_cell_row rfl _ _ _ 78 _ (0, 0) _ rfl (B3.row _) Tryd.underlying78 rfl (info_El _)) rfl ⟨_, ?_, rfl, below_setRow hB (by omega) _⟩
  rw [H.out, Int.add_mul_emod_self_left, Int.natCast_emod, Int.toNat_of_nonneg hv, pp_eq]
  rfl
theorem val_El (a : Nat) : val5 ((a : Int) % 2251799813685248) ((a : Int) / 2251799813685248 % 2251799813685248) ((a : Int) / 5070602400912917605986812821504 % 2251799813685248) ((a : Int) / 11417981541647679048466287755595961091061972992 % 2251799813685248) ((a : Int) / 25711008708143844408671393477458601640355247900524685364822016) = a := by
  unfold val5; omega
theorem mul_any (a b : Nat) (w : World) (ha : a < pp) (hb : b < pp) : Calls Tryd.prog 56 #[El a, El b] w fun e w' => e = .returned (El (a * b % pp)) ∧ Below w.heap.size w w' := by
  rw [pp_eq] at ha hb
  refine (mul_parts _ _ _ _ _ _ _ _ _ _ w (by omega) (by omega) (by omega) (by omega) (by omega) (by omega) (by omega) (by omega) (by omega) (by omega)
    (by omega) (by omega) (by omega) (by omega) (by omega) (by omega) (by omega) (by omega) (by omega) (by omega)).mono ?_
  rintro e w' ⟨n, hn, rfl, hB⟩
  rw [val_El, val_El] at hn
  have : n = a * b % pp := by
    apply Int.ofNat_inj.1
    rw [Int.natCast_emod, Int.natCast_mul, pp_eq]
    exact hn
  rw [this]
  exact ⟨rfl, hB⟩
end Go.Proofs.YtegbnadnodlalaaDoor
