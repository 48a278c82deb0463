/- The contract of scalar's followed. -/
import Derived.Test.YtnglancehmdlpaaSb
namespace Go.Proofs.Ytnglancehmdlpaa
open Go.RowKit

theorem info4 (a b c d : Value) : (Try.prog.info? 47).map (·.size) = some (#[a, b, c, d] : Array Value).size := by kernel_rfl
set_option maxHeartbeats 2000000 in
set_option maxRecDepth 100000 in
theorem followed_any (n low : Nat) (w : World) (hn : n < LL) (hl : low < 4294967296) :
    Calls Try.prog 24 #[Nm n, .int .u32 (low : Int)] w fun e w' => e = .returned (Nm ((n * 4294967296 + low) % LL)) ∧ Below w.heap.size w w' := by
  rw [LL_eq] at hn
  obtain ⟨a, b, c, d, en, hv, a0, a1, b0, b1, c0, c1, d0, d1⟩ := nm_parts n (Nat.lt_trans hn (by decide))
  unfold Nm
  rw [en]
  obtain ⟨ab, hab⟩ : ∃ r, r = d / 268435456 := ⟨_, rfl⟩
  obtain ⟨g0, hg0⟩ : ∃ r, r = ab * 6346243789798364141 / 18446744073709551616 := ⟨_, rfl⟩
  obtain ⟨p0, hp0⟩ : ∃ r, r = ab * 6346243789798364141 % 18446744073709551616 := ⟨_, rfl⟩
  obtain ⟨g1, hg1⟩ : ∃ r, r = ab * 1503914060200516822 / 18446744073709551616 := ⟨_, rfl⟩
  obtain ⟨t1, ht1⟩ : ∃ r, r = ab * 1503914060200516822 % 18446744073709551616 := ⟨_, rfl⟩
  obtain ⟨p1, hp1⟩ : ∃ r, r = (t1 + g0) % 18446744073709551616 := ⟨_, rfl⟩
  obtain ⟨cy, hcy⟩ : ∃ r, r = (t1 + g0) / 18446744073709551616 := ⟨_, rfl⟩
  obtain ⟨x3, hx3⟩ : ∃ r, r = (d * 4294967296 % 18446744073709551616 + c / 4294967296) % 1152921504606846976 := ⟨_, rfl⟩
  obtain ⟨x2, hx2⟩ : ∃ r, r = c * 4294967296 % 18446744073709551616 + b / 4294967296 := ⟨_, rfl⟩
  obtain ⟨x1, hx1⟩ : ∃ r, r = b * 4294967296 % 18446744073709551616 + a / 4294967296 := ⟨_, rfl⟩
  obtain ⟨x0, hx0⟩ : ∃ r, r = a * 4294967296 % 18446744073709551616 + (low : Int) := ⟨_, rfl⟩
  obtain ⟨r0, hr0⟩ : ∃ r, r = (x0 - p0) % 18446744073709551616 := ⟨_, rfl⟩
  obtain ⟨q0, hq0⟩ : ∃ r, r = -((x0 - p0) / 18446744073709551616) := ⟨_, rfl⟩
  obtain ⟨r1, hr1⟩ : ∃ r, r = (x1 - p1 - q0) % 18446744073709551616 := ⟨_, rfl⟩
  obtain ⟨q1, hq1⟩ : ∃ r, r = -((x1 - p1 - q0) / 18446744073709551616) := ⟨_, rfl⟩
  obtain ⟨r2, hr2⟩ : ∃ r, r = (x2 - (g1 + cy) - q1) % 18446744073709551616 := ⟨_, rfl⟩
  obtain ⟨q2, hq2⟩ : ∃ r, r = -((x2 - (g1 + cy) - q1) / 18446744073709551616) := ⟨_, rfl⟩
  obtain ⟨r3, hr3⟩ : ∃ r, r = (x3 - 0 - q2) % 18446744073709551616 := ⟨_, rfl⟩
  obtain ⟨q3, hq3⟩ : ∃ r, r = -((x3 - 0 - q2) / 18446744073709551616) := ⟨_, rfl⟩
  have hd : d < 18446744073709551616 := d1
  have fa := follow_arith n low a b c d ab g0 p0 g1 t1 p1 cy x3 x2 x1 x0 r0 q0 r1 q1 r2 q2 r3 q3 hn hl hv ⟨a0, a1⟩ ⟨b0, b1⟩ ⟨c0, c1⟩ ⟨d0, d1⟩ hab hg0 hp0 hg1 ht1 hp1 hcy hx3 hx2 hx1 hx0 hr0 hq0 hr1 hq1 hr2 hq2 hr3 hq3
  obtain ⟨bab, bx0, bx1, bx2, bx3, bp0, bp1, bg, bg0, bt1, bcy, bq0, bq1, bq2, bq3, br0, br1, br2, br3, m, R, hm, hmlt, hR, hmq⟩ := fa
  have em : Nm_cells m = #[.int .u64 r0, .int .u64 r1, .int .u64 r2, .int .u64 r3] := Nm_of _ _ _ _ _ hm br0.1 br0.2 br1.1 br1.2 br2.1 br2.2 br3.1 br3.2
  have cP := fun W => plusOrder_v m q3 R W hmlt hmq
  have hRlt : R < LL := hR ▸ Nat.mod_lt _ LL_pos
  rw [LL_eq] at hRlt
  obtain ⟨u0, u1, u2, u3, eR, _⟩ := nm_parts R (Nat.lt_trans hRlt (by decide))
  rw [← hR, eR]
  unfold Nm at cP
  rw [em, eR] at cP
  have CP := Lib.hid cP
  have mul0 := fun W => mul64_any ab 6346243789798364141 bab.1 (by decide) (low_bd bab) (by decide) W
  have mul1 := fun W => mul64_any ab 1503914060200516822 bab.1 (by decide) (low_bd bab) (by decide) W
  rw [← hg0, ← hp0] at mul0
  rw [← hg1, ← ht1] at mul1
  have ad := add64_run0 t1 g0 bt1.1 bg0.1
  rw [← hp1, ← hcy] at ad
  have sh := fun W => sub64_run0 x0 p0 bx0.1 bp0.1 bx0.2 bp0.2 W
  rw [← hr0, ← hq0] at sh
  have sh1 := fun W => sub64_run x1 p1 q0 bx1.1 bp1.1 bq0.1 bq0.2 bx1.2 bp1.2 W
  rw [← hr1, ← hq1] at sh1
  have sh2 := fun W => sub64_run x2 (g1 + cy) q1 bx2.1 (gc_bd bg bcy).1 bq1.1 bq1.2 bx2.2 (gc_bd bg bcy).2 W
  rw [← hr2, ← hq2] at sh2
  have sh3 := fun W => sub64_run x3 0 q2 bx3.1 (by decide) bq2.1 bq2.2 (top_lt bx3) (by decide) W
  rw [← hr3, ← hq3] at sh3
  have o3 := shl_or d c d0 d1 c0 c1
  have o2 := shl_or c b c0 c1 b0 b1
  have o1 := shl_or b a b0 b1 a0 a1
  have n3 := and60 (d * 4294967296 % 18446744073709551616 + c / 4294967296) (tn_bd c0 c1).1 (tn_bd c0 c1).2
  rw [← hx3] at n3
  rw [← hx2] at o2
  rw [← hx1] at o1
  have o0 := or_low a low hl
  rw [← hx0] at o0
  have wl := wrap_low low hl
  have M0 := Lib.hid mul0; have M1 := Lib.hid mul1
  have wgc := (gc_bd bg bcy).2
  have hab' : d / 268435456 = ab := hab.symm
  clear hab
  clear mul0 mul1 hg0 hp0 hg1 ht1 hp1 hcy hr0 hq0 hr1 hq1 hr2 hq2 hr3 hq3 hx0 hx1 hx2 hx3 hm hmlt hmq hR hRlt cP em eR hv en hn hd
  go_enter Try.func24, Try.ntmps24
  go_wp2_with fail
  refine (M0.out _).mono ?_
  rintro e w1 ⟨rfl, rfl⟩
  go_wp2_with fail
  refine (M1.out _).mono ?_
  rintro e w1 ⟨rfl, rfl⟩
  go_wp2_with fail
  generalize hW : World.alloc (World.alloc w _) _ = W1
  have HR : Blk W1 (w.heap.size + 1) 47 #[.int .u64 0, .int .u64 0, .int .u64 0, .int .u64 0] := by
    subst hW
    skip
    exact Blk.new' (by simp) _ _
  have HB : Below w.heap.size w W1 := by
    subst hW
    repeat (first | exact Below.refl _ _ | refine Below.setCell ?_ (by simp) _ | refine Below.alloc ?_ (by simp) _ | refine Below.alloc ?_ (Nat.le_refl _) _)
  clear hW
  refine (CP.out _).mono ?_
  rintro e w1 ⟨rfl, hb⟩
  have HR1 := HR.below hb HR.lt
  have HB1 := HB.trans (hb.mono HB.size)
  clear hb HR HB
  have k0 := HR1.cell 0; have k1 := HR1.cell 1; have k2 := HR1.cell 2; have k3 := HR1.cell 3
  have z0 := HR1.frozen 0; have z1 := HR1.frozen 1; have z2 := HR1.frozen 2; have z3 := HR1.frozen 3
  simp only [List.getElem?_toArray, List.getElem?_cons_zero, List.getElem?_cons_succ] at k0 k1 k2 k3
  go_wp2
  have HF : Blk ((((w1.setCell ⟨w.heap.size + 1, 0, none⟩ (.int .u64 u0)).setCell ⟨w.heap.size + 1, 1, none⟩ (.int .u64 u1)).setCell ⟨w.heap.size + 1, 2, none⟩ (.int .u64 u2)).setCell ⟨w.heap.size + 1, 3, none⟩ (.int .u64 u3)) (w.heap.size + 1) 47 #[.int .u64 u0, .int .u64 u1, .int .u64 u2, .int .u64 u3] :=
    (((HR1.set 0 _).set 1 _).set 2 _).set 3 _
  exact bodyPost_ret (results_cell_row rfl _ _ _ 47 _ (0, 0) _ rfl HF Try.underlying47 rfl (info4 _ _ _ _)) rfl ⟨rfl, (((HB1.setCell (p := ⟨w.heap.size + 1, 0, none⟩) (by simp) _).setCell (p := ⟨w.heap.size + 1, 1, none⟩) (by simp) _).setCell (p := ⟨w.heap.size + 1, 2, none⟩) (by simp) _).setCell (p := ⟨w.heap.size + 1, 3, none⟩) (by simp) _⟩
end Go.Proofs.Ytnglancehmdlpaa
