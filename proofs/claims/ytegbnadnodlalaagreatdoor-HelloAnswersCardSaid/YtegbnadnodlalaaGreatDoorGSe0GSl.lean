/- The contract of scalar's product. The contract of scalar's followed. What memory holds, as a list of facts that stand over what the program does elsewhere; contracts by value. -/
import Derived.Test.YtegbnadnodlalaaGreatDoorGSb0GSd
import Derived.Test.YtegbnadnodlalaaGreatDoorLk
import Derived.Deep.Cut
import Derived.Laws.CopyRow
import Derived.Test.YtegbnadnodlalaaGreatDoorGRc0Lf
import Derived.Test.YtegbnadnodlalaaGreatDoorLg0Lj
import Derived.Test.YtegbnadnodlalaaGreatDoorGFk0GRb
import Derived.ProofKit
import Derived.OpenShut
import Derived.DataShut
import Derived.ChangeSame
import Derived.JoinedOf
import Derived.JoinedAt
import Derived.RowKit3
namespace Go.Proofs.YtegbnadnodlalaaGreatDoor.Sc
open Go.RowKit
/-- Eight words. -/
def W8 (f : Nat → Nat) : Array Value := Iv .u64 ((List.range 8).map fun j => ((f j : Nat) : Int))
theorem W8_size (f : Nat → Nat) : (W8 f).size = 8 := by rw [W8, Iv_size]; rfl
theorem W8_at (f : Nat → Nat) (j : Nat) (h : j < 8) : (W8 f)[j]? = some (.int .u64 ((f j : Nat) : Int)) := by
 rw [W8, Iv_get _ _ _ (by simpa using h)]
 simp [h]
theorem W8_set (f g : Nat → Nat) (k : Nat) (v : Nat) (h : ∀ p, p < 8 → g p = if p = k then v else f p) : (W8 f).setIfInBounds k (.int .u64 ((v : Nat) : Int)) = W8 g := by
 unfold W8
 rw [Iv_set]
 congr 1
 apply List.ext_getElem (by simp)
 intro j h1 h2
 simp only [List.length_map, List.length_range] at h2
 simp only [List.getElem_set, List.getElem_map, List.getElem_range]
 rw [h j h2]
 by_cases e : k = j
 · rw [if_pos e, if_pos e.symm]
 · rw [if_neg e, if_neg (Ne.symm e)]
theorem W8_congr {f g : Nat → Nat} (h : ∀ p, p < 8 → f p = g p) : W8 f = W8 g := by
 unfold W8
 congr 1
 apply List.map_congr_left
 intro p hp
 rw [h p (by simpa using hp)]
theorem info_w8 (f : Nat → Nat) : (Tryz.prog.info? 115).map (·.size) = some (W8 f).size := by
 have i : (Tryz.prog.info? 115).map (·.size) = some 8 := by kernel_rfl
 rw [i, W8_size]
theorem W8_zero : W8 (fun _ => 0) = #[.int .u64 0, .int .u64 0, .int .u64 0, .int .u64 0, .int .u64 0, .int .u64 0, .int .u64 0, .int .u64 0] := by
 simp [W8, Iv, List.range, List.range.loop]
/-- The memory of product. -/
structure PrW (A B : Nat) (w wr : World) (f : Nat → Nat) : Prop where
 a : Blk wr w.heap.size 113 (Nm_cells A)
 b : Blk wr (w.heap.size + 1) 113 (Nm_cells B)
 res : Blk wr (w.heap.size + 1 + 1 + 1) 115 (W8 fun _ => 0)
 sum : Blk wr (w.heap.size + 1 + 1 + 1 + 1) 115 (W8 f)
 k : Below w.heap.size w wr
theorem PrW.drewN {A B : Nat} {w wr : World} {f : Nat → Nat} (h : PrW A B w wr f) (n : Nat) : PrW A B w (wr.drewN n) f := ⟨h.a, h.b, h.res, h.sum, below_drewN h.k n⟩
theorem PrW.congr {A B : Nat} {w wr : World} {f g : Nat → Nat} (h : PrW A B w wr f) (e : ∀ p, p < 8 → f p = g p) : PrW A B w wr g := ⟨h.a, h.b, h.res, W8_congr e ▸ h.sum, h.k⟩
theorem PrW.step {A B : Nat} {w wr : World} {f g : Nat → Nat} (h : PrW A B w wr f) (k v : Nat) (e : ∀ p, p < 8 → g p = if p = k then v else f p) : PrW A B w (wr.setCell ⟨w.heap.size + 1 + 1 + 1 + 1, k, none⟩ (.int .u64 ((v : Nat) : Int))) g := by
 refine ⟨h.a.far (by simp <;> omega) _, h.b.far (by simp <;> omega) _, h.res.far (by simp <;> omega) _, ?_, h.k.setCell (by simp <;> omega) _⟩
 have := h.sum.set k (.int .u64 ((v : Nat) : Int))
 rw [W8_set f g k v e] at this
 exact this
set_option maxHeartbeats 2000000 in
set_option maxRecDepth 100000 in
theorem product_any (A B C : Nat) (w : World) (hA : A < pw 4) (hB : B < pw 4) (hC : C < pw 4) :
  Calls Tryz.prog 69 #[Nm A, Nm B, Nm C] w fun e w' => e = .returned (.agg (W8 (wordAt (A * B + C)))) ∧ Below w.heap.size w w' := by
 unfold Nm
 go_enter Tryz.func69, Tryz.ntmps69
 go_upto_region 2 with fail
 refine wp_region_Z (S := fun _ => True) 2 (by kernel_rfl) ?_
 refine wpAnyZ_takeL 0 (v := ?_) rfl (by kernel_rfl) (by kernel_rfl) (by kernel_rfl) (by kernel_rfl) (by kernel_rfl) (fun _ _ _ h => h) (Or.inl ⟨by rfl, ?_⟩) trivial ?_
 rotate_left
 ·
  intro w' hw'
  go_simp
  try (with_reducible rfl)
 simp only [Act.put, List.setIfInBounds_toArray, List.set_cons_zero, List.set_cons_succ]
 refine wpAnyZ_takeL 1 (v := ?_) rfl (by kernel_rfl) (by kernel_rfl) (by kernel_rfl) (by kernel_rfl) (by kernel_rfl) (fun _ _ _ h => h) (Or.inl ⟨by rfl, ?_⟩) trivial ?_
 rotate_left
 ·
  intro w' hw'
  go_simp
  try (with_reducible rfl)
 simp only [Act.put, List.setIfInBounds_toArray, List.set_cons_zero, List.set_cons_succ]
 refine wpAnyZ_one (i := 2) (by kernel_rfl) ?_
 unfold wpOp
 go_simp
 generalize hW : World.drew (World.alloc (World.alloc (World.alloc (World.alloc (World.alloc w _) _) _) _) _) = W
 have FA : Blk W w.heap.size 113 (Nm_cells A) := by subst hW; exact ((((Blk.new _ _ _).alloc _).alloc _).alloc _).alloc _
 have FB : Blk W (w.heap.size + 1) 113 (Nm_cells B) := by subst hW; exact (((Blk.new' (by simp) _ _).alloc _).alloc _).alloc _
 have FC : Blk W (w.heap.size + 1 + 1) 113 (Nm_cells C) := by subst hW; exact ((Blk.new' (by simp) _ _).alloc _).alloc _
 have FR : Blk W (w.heap.size + 1 + 1 + 1) 115 (W8 fun _ => 0) := by subst hW; rw [W8_zero]; exact (Blk.new' (by simp) _ _).alloc _
 have FS : Blk W (w.heap.size + 1 + 1 + 1 + 1) 115 (W8 fun _ => 0) := by subst hW; rw [W8_zero]; exact Blk.new' (by simp) _ _
 have FK : Below w.heap.size w W := by
  subst hW
  exact below_drew ((((((Below.refl _ _).alloc (Nat.le_refl _) _).alloc (by simp) _).alloc (by simp; omega) _).alloc (by simp; omega) _).alloc (by simp; omega) _)
 clear hW
 have hcp := run_copy_row (P := Tryz.prog) W 94 94 3 26 (w.heap.size + 1 + 1 + 1 + 1) 0 8 8 ⟨w.heap.size + 1 + 1, 0, none⟩ 4 4 (W8 fun _ => 0) 115 (Nm_cells C).toList Tryz.underlying94 (by kernel_rfl) FS (by rw [Array.length_toList, Nm_size]; rfl)
  (fun j v h => by
   rw [Array.getElem?_toList] at h
   have : (⟨w.heap.size + 1 + 1, 0, none⟩ : Addr).add j = ⟨w.heap.size + 1 + 1, j, none⟩ := by unfold Addr.add; split <;> simp_all
   rw [this, FC.cell]
   exact h) (by rw [Array.length_toList, Nm_size, W8_size]; decide) (fun v hv => by
   have := Nm_one C
   rw [Array.all_eq_true_iff_forall_mem] at this
   exact this v (by simpa using hv))
 have hrow : (List.take 0 (W8 fun _ => 0).toList ++ (Nm_cells C).toList ++ List.drop (0 + (Nm_cells C).toList.length) (W8 fun _ => 0).toList).toArray = W8 (wordAt C) := by
  rw [W8_zero]
  have h4 : ∀ p, 4 ≤ p → wordAt C p = 0 := fun p hp => word_zero_of_lt C 4 p hC hp
  unfold W8 Nm_cells Iv
  simp [List.range, List.range.loop, h4]
 rw [hrow] at hcp
 rw [hcp]
 left
 have F0 : PrW A B w (World.setRow W (w.heap.size + 1 + 1 + 1 + 1) (W8 (wordAt C))) (wordAt (Sk A B C 0)) :=
  ⟨FA.rowFar (by omega) _, FB.rowFar (by omega) _, FR.rowFar (by omega) _, by rw [Sk_zero]; exact FS.row _, below_setRow FK (by omega) _⟩
 clear hcp hrow FA FB FC FR FS FK
 generalize World.setRow W _ _ = V at *
 go_simp
 refine wpAnyZ_done (by kernel_rfl) ?_ _
 go_wp2_with fail
 go_loopw [17] (fun i wr => ∃ k : Nat, k ≤ 4 ∧ i = .int .i64 k ∧ PrW A B w wr (wordAt (Sk A B C k))) (fun i _ => 4 - (intOf i).toNat)
 case atStart => exact ⟨0, by omega, rfl, F0⟩
 case round =>
  obtain ⟨k, hk, rfl, F⟩ := hrel
  clear F0
  by_cases hlt : k < 4
  ·
   go_wp2_with fail
   go_loopw [20, 9] (fun j ab wr => ∃ q : Nat, q ≤ 4 ∧ j = .int .i64 q ∧ ab = .int .u64 ((abv A B C k q : Nat) : Int) ∧ PrW A B w wr (mixW A B C k q)) (fun j _ _ => 4 - (intOf j).toNat)
   case atStart => exact ⟨0, by omega, rfl, by rw [abv_zero]; rfl, F.congr (fun p _ => (mixW_zero A B C k p).symm)⟩
   case round =>
    obtain ⟨q, hq, rfl, rfl, G⟩ := hrel
    clear F
    by_cases hlq : q < 4
    ·
     skip
     have c1 : wr.cell? ⟨w.heap.size, k, none⟩ = some (.int .u64 ((wordAt A k : Nat) : Int)) := by rw [G.a.cell, Nm_at _ _ hlt]
     have c2 : wr.cell? ⟨w.heap.size + 1, q, none⟩ = some (.int .u64 ((wordAt B q : Nat) : Int)) := by rw [G.b.cell, Nm_at _ _ hlq]
     have n1 := inner_num A B C k q
     have lx := wordAt_lt A k
     have ly := wordAt_lt B q
     have ls := wordAt_lt (Sk A B C k) (k + q)
     have la := abv_lt A B C k q
     have la' := abv_lt A B C k (q + 1)
     have hstep := fun p => mixW_succ A B C k q p
     have c3 : ∀ n, (wr.drewN n).cell? ⟨w.heap.size + 1 + 1 + 1 + 1, k + q, none⟩ = some (.int .u64 ((wordAt (Sk A B C k) (k + q) : Nat) : Int)) := fun n => by
      rw [(G.drewN n).sum.cell, W8_at _ _ (by omega)]
      unfold mixW
      rw [if_neg (by omega)]
     obtain ⟨x, hx⟩ : ∃ x, x = wordAt A k := ⟨_, rfl⟩
     obtain ⟨y, hy⟩ : ∃ x, x = wordAt B q := ⟨_, rfl⟩
     obtain ⟨sk, hs⟩ : ∃ x, x = wordAt (Sk A B C k) (k + q) := ⟨_, rfl⟩
     obtain ⟨ab, ha⟩ : ∃ x, x = abv A B C k q := ⟨_, rfl⟩
     obtain ⟨an, hn⟩ : ∃ x, x = abv A B C k (q + 1) := ⟨_, rfl⟩
     obtain ⟨t, ht⟩ : ∃ t, t = x * y + sk + ab := ⟨_, rfl⟩
     rw [← hx] at c1 lx n1
     rw [← hy] at c2 ly n1
     rw [← hs] at c3 ls n1
     rw [← ha] at la n1 ⊢
     rw [← hn] at la' n1
     simp only [← hx, ← hy, ← hs, ← ha, ← ht] at hstep
     rw [← ht] at n1
     have sn := step_num (x : Int) (y : Int) (sk : Int) (ab : Int) (by omega) (by omega) (by omega) (by omega) (by omega) (by omega) (by omega) (by omega)
     obtain ⟨hi, hhi⟩ : ∃ h, h = (x : Int) * (y : Int) / 18446744073709551616 := ⟨_, rfl⟩
     obtain ⟨lo, hlo⟩ : ∃ h, h = (x : Int) * (y : Int) % 18446744073709551616 := ⟨_, rfl⟩
     have M := fun W => mul64_any (x : Int) (y : Int) (by omega) (by omega) (by omega) (by omega) W
     rw [← hhi, ← hlo] at M sn
     have tz : (t : Int) = (x : Int) * (y : Int) + sk + ab := by rw [ht]; simp
     rw [← tz] at sn
     have bxy := sn.2.2
     have bhl : 0 ≤ hi ∧ hi ≤ 18446744073709551614 ∧ 0 ≤ lo ∧ lo < 18446744073709551616 := by
      clear sn tz n1 hstep ht
      generalize (x : Int) * (y : Int) = m at *
      omega
     have sn1 := sn.1
     have sn2 := sn.2.1
     clear sn bxy hhi hlo tz hx hy hs ha ht
     have A1 := add64_run0 lo (sk : Int) bhl.2.2.1 (by omega)
     obtain ⟨r1, hr1⟩ : ∃ r, r = (lo + (sk : Int)) % 18446744073709551616 := ⟨_, rfl⟩
     obtain ⟨e1, he1⟩ : ∃ r, r = (lo + (sk : Int)) / 18446744073709551616 := ⟨_, rfl⟩
     rw [← hr1, ← he1] at A1
     have b1 : 0 ≤ r1 ∧ r1 < 18446744073709551616 ∧ 0 ≤ e1 ∧ e1 ≤ 1 := by clear sn1 sn2 n1; omega
     have A2 := add64_run0 r1 (ab : Int) b1.1 (by omega)
     rw [← hr1] at sn1
     rw [← hr1, ← he1] at sn2
     obtain ⟨e2, he2⟩ : ∃ r, r = (r1 + (ab : Int)) / 18446744073709551616 := ⟨_, rfl⟩
     rw [← he2] at A2 sn2
     have b2 : 0 ≤ e2 ∧ e2 ≤ 1 := by clear sn1 sn2 n1 hr1 he1; omega
     have f1 : (r1 + (ab : Int)) % 18446744073709551616 = ((t % 18446744073709551616 : Nat) : Int) := by rw [sn1]; rfl
     have f2 : hi + e1 + e2 = ((an : Nat) : Int) := by rw [sn2, n1.1]; rfl
     rw [f1] at A2
     have F2 := Lib.hid f2
     have HN := Lib.hid hn
     have HS := Lib.hid hstep
     have C3 := Lib.hid c3
     have i1 : (0 : Int) ≤ (k : Int) := by omega
     have i2 : (k : Int) < 4 := by omega
     have j1 : (0 : Int) ≤ (q : Int) := by omega
     have j2 : (q : Int) < 4 := by omega
     clear hstep c3 n1 sn1 sn2 hr1 he1 he2 f1 f2 hn
     go_wp2_with fail
     go_quiet ((go_at_call 89; exact quiet_left (M _)))
     have G1 := G.drewN nq
     have c3 := C3.out nq
     have z3 := G1.sum.frozen (k + q)
     clear G c1 c2 C3 M
     have wk1 : IntKind.i64.wrap ((k : Int) + (q : Int)) = (k : Int) + (q : Int) := by rw [IntKind.wrap_i64]; omega
     have wk2 : ((k : Int) + (q : Int)).toNat = k + q := by omega
     have wk3 : (0 : Int) ≤ (k : Int) + (q : Int) := by omega
     have wk4 : (k : Int) + (q : Int) < 8 := by omega
     have wh : IntKind.u64.wrap (hi + e1) = hi + e1 := by rw [IntKind.wrap_u64]; omega
     have wh2 : IntKind.u64.wrap (hi + e1 + e2) = (an : Int) := by rw [F2.out, IntKind.wrap_u64]; omega
     generalize World.drewN wr nq = V at *
     go_wp2
     exact ⟨⟨q + 1, by omega, by go_num, by rw [HN.out], G1.step (k + q) (t % 18446744073709551616) (fun p _ => HS.out p)⟩, by simp [intOf]; omega⟩
    ·
     obtain rfl : q = 4 := by omega
     have he := fun p => outer_end A B C hB hC k p
     have c3 : wr.cell? ⟨w.heap.size + 1 + 1 + 1 + 1, k + 4, none⟩ = some (.int .u64 ((mixW A B C k 4 (k + 4) : Nat) : Int)) := by
      rw [G.sum.cell, W8_at _ _ (by omega)]
     have z3 := G.sum.frozen (k + 4)
     have HE := Lib.hid he
     clear he
     generalize mixW A B C k 4 (k + 4) = old at c3
     obtain ⟨ab, ha⟩ : ∃ x, x = abv A B C k 4 := ⟨_, rfl⟩
     rw [← ha]
     have HA := Lib.hid ha
     clear ha
     have wk1 : IntKind.i64.wrap ((k : Int) + 4) = (k : Int) + 4 := by rw [IntKind.wrap_i64]; omega
     have wk2 : ((k : Int) + 4).toNat = k + 4 := by omega
     have wk3 : (0 : Int) ≤ (k : Int) + 4 := by omega
     have wk4 : (k : Int) + 4 < 8 := by omega
     go_wp2
     refine ⟨⟨k + 1, by omega, by go_num, G.step (k + 4) ab (fun p _ => ?_)⟩, by simp [intOf]; omega⟩
     rw [HA.out]
     exact HE.out p
  ·
   obtain rfl : k = 4 := by omega
   rw [Sk_four A B C hA] at F
   obtain ⟨_, _, B2, B5, hb⟩ := F
   go_wp2_with (first | (refine wpList_load_row rfl 115 _ rfl (w.heap.size + 1 + 1 + 1 + 1) rfl 115 _ (0, 0) _ B5 Tryz.underlying115 rfl (info_w8 _) ?_) | (refine wpList_store_row rfl 115 _ _ rfl (w.heap.size + 1 + 1 + 1) _ rfl rfl 115 _ B2 (info_w8 _) (by rw [W8_size, W8_size]) (Iv_one _ _) ?_))
   exact bodyPost_ret (results_cell_row rfl _ _ _ 115 _ (0, 0) _ rfl (B2.row _) Tryz.underlying115 rfl (info_w8 _)) rfl ⟨rfl, below_setRow hb (by omega) _⟩
end Go.Proofs.YtegbnadnodlalaaGreatDoor.Sc
namespace Go.Proofs.YtegbnadnodlalaaGreatDoor.Sc
open Go.RowKit
theorem info4 (a b c d : Value) : (Tryz.prog.info? 114).map (·.size) = some (#[a, b, c, d] : Array Value).size := by kernel_rfl
set_option maxHeartbeats 2000000 in
set_option maxRecDepth 100000 in
theorem followed_any (n low : Nat) (w : World) (hn : n < LL) (hl : low < 4294967296) :
  Calls Tryz.prog 71 #[Nm n, .int .u32 (low : Int)] w fun e w' => e = .returned (Nm ((n * 4294967296 + low) % LL)) ∧ Below w.heap.size w w' := by
 rw [LL_eq] at hn
 obtain ⟨a, b, c, d, en, hv, a0, a1, b0, b1, c0, c1, d0, d1⟩ := nm_parts n (Nat.lt_trans hn (by decide))
 unfold Nm
 rw [en]
 obtain ⟨ab, hab⟩ : ∃ r, r = d / 268435456 := ⟨_, rfl⟩
 obtain ⟨g0, hg0⟩ : ∃ r, r = ab * 6346243789798364141 / 18446744073709551616 := ⟨_, rfl⟩
 obtain ⟨p0, hp0⟩ : ∃ r, r = ab * 6346243789798364141 % 18446744073709551616 := ⟨_, rfl⟩
 obtain ⟨g1, hg1⟩ : ∃ r, r = ab * 1503914060200516822 / 18446744073709551616 := ⟨_, rfl⟩
 obtain ⟨t1, ht1⟩ : ∃ r, r = ab * 1503914060200516822 % 18446744073709551616 := ⟨_, rfl⟩
 obtain ⟨p1, hp1⟩ : ∃ r, r = (t1 + g0) % 18446744073709551616 := ⟨_, rfl⟩
 obtain ⟨cy, hcy⟩ : ∃ r, r = (t1 + g0) / 18446744073709551616 := ⟨_, rfl⟩
 obtain ⟨x3, hx3⟩ : ∃ r, r = (d * 4294967296 % 18446744073709551616 + c / 4294967296) % 1152921504606846976 := ⟨_, rfl⟩
 obtain ⟨x2, hx2⟩ : ∃ r, r = c * 4294967296 % 18446744073709551616 + b / 4294967296 := ⟨_, rfl⟩
 obtain ⟨x1, hx1⟩ : ∃ r, r = b * 4294967296 % 18446744073709551616 + a / 4294967296 := ⟨_, rfl⟩
 obtain ⟨x0, hx0⟩ : ∃ r, r = a * 4294967296 % 18446744073709551616 + (low : Int) := ⟨_, rfl⟩
 obtain ⟨r0, hr0⟩ : ∃ r, r = (x0 - p0) % 18446744073709551616 := ⟨_, rfl⟩
 obtain ⟨q0, hq0⟩ : ∃ r, r = -((x0 - p0) / 18446744073709551616) := ⟨_, rfl⟩
 obtain ⟨r1, hr1⟩ : ∃ r, r = (x1 - p1 - q0) % 18446744073709551616 := ⟨_, rfl⟩
 obtain ⟨q1, hq1⟩ : ∃ r, r = -((x1 - p1 - q0) / 18446744073709551616) := ⟨_, rfl⟩
 obtain ⟨r2, hr2⟩ : ∃ r, r = (x2 - (g1 + cy) - q1) % 18446744073709551616 := ⟨_, rfl⟩
 obtain ⟨q2, hq2⟩ : ∃ r, r = -((x2 - (g1 + cy) - q1) / 18446744073709551616) := ⟨_, rfl⟩
 obtain ⟨r3, hr3⟩ : ∃ r, r = (x3 - 0 - q2) % 18446744073709551616 := ⟨_, rfl⟩
 obtain ⟨q3, hq3⟩ : ∃ r, r = -((x3 - 0 - q2) / 18446744073709551616) := ⟨_, rfl⟩
 have hd : d < 18446744073709551616 := d1
 have fa := follow_arith n low a b c d ab g0 p0 g1 t1 p1 cy x3 x2 x1 x0 r0 q0 r1 q1 r2 q2 r3 q3 hn hl hv ⟨a0, a1⟩ ⟨b0, b1⟩ ⟨c0, c1⟩ ⟨d0, d1⟩ hab hg0 hp0 hg1 ht1 hp1 hcy hx3 hx2 hx1 hx0 hr0 hq0 hr1 hq1 hr2 hq2 hr3 hq3
 obtain ⟨bab, bx0, bx1, bx2, bx3, bp0, bp1, bg, bg0, bt1, bcy, bq0, bq1, bq2, bq3, br0, br1, br2, br3, m, R, hm, hmlt, hR, hmq⟩ := fa
 have em : Nm_cells m = #[.int .u64 r0, .int .u64 r1, .int .u64 r2, .int .u64 r3] := Nm_of _ _ _ _ _ hm br0.1 br0.2 br1.1 br1.2 br2.1 br2.2 br3.1 br3.2
 have cP := fun W => plusOrder_v m q3 R W hmlt hmq
 have hRlt : R < LL := hR ▸ Nat.mod_lt _ LL_pos
 rw [LL_eq] at hRlt
 obtain ⟨u0, u1, u2, u3, eR, _⟩ := nm_parts R (Nat.lt_trans hRlt (by decide))
 rw [← hR, eR]
 unfold Nm at cP
 rw [em, eR] at cP
 have CP := Lib.hid cP
 have mul0 := fun W => mul64_any ab 6346243789798364141 bab.1 (by decide) (low_bd bab) (by decide) W
 have mul1 := fun W => mul64_any ab 1503914060200516822 bab.1 (by decide) (low_bd bab) (by decide) W
 rw [← hg0, ← hp0] at mul0
 rw [← hg1, ← ht1] at mul1
 have ad := add64_run0 t1 g0 bt1.1 bg0.1
 rw [← hp1, ← hcy] at ad
 have sh := fun W => sub64_run0 x0 p0 bx0.1 bp0.1 bx0.2 bp0.2 W
 rw [← hr0, ← hq0] at sh
 have sh1 := fun W => sub64_run x1 p1 q0 bx1.1 bp1.1 bq0.1 bq0.2 bx1.2 bp1.2 W
 rw [← hr1, ← hq1] at sh1
 have sh2 := fun W => sub64_run x2 (g1 + cy) q1 bx2.1 (gc_bd bg bcy).1 bq1.1 bq1.2 bx2.2 (gc_bd bg bcy).2 W
 rw [← hr2, ← hq2] at sh2
 have sh3 := fun W => sub64_run x3 0 q2 bx3.1 (by decide) bq2.1 bq2.2 (top_lt bx3) (by decide) W
 rw [← hr3, ← hq3] at sh3
 have o3 := shl_or d c d0 d1 c0 c1
 have o2 := shl_or c b c0 c1 b0 b1
 have o1 := shl_or b a b0 b1 a0 a1
 have n3 := and60 (d * 4294967296 % 18446744073709551616 + c / 4294967296) (tn_bd c0 c1).1 (tn_bd c0 c1).2
 rw [← hx3] at n3
 rw [← hx2] at o2
 rw [← hx1] at o1
 have o0 := or_low a low hl
 rw [← hx0] at o0
 have wl := wrap_low low hl
 have M0 := Lib.hid mul0; have M1 := Lib.hid mul1
 have wgc := (gc_bd bg bcy).2
 have hab' : d / 268435456 = ab := hab.symm
 clear hab
 clear mul0 mul1 hg0 hp0 hg1 ht1 hp1 hcy hr0 hq0 hr1 hq1 hr2 hq2 hr3 hq3 hx0 hx1 hx2 hx3 hm hmlt hmq hR hRlt cP em eR hv en hn hd
 go_enter Tryz.func71, Tryz.ntmps71
 go_wp2_with fail
 refine (M0.out _).mono ?_
 rintro e w1 ⟨rfl, rfl⟩
 go_wp2_with fail
 refine (M1.out _).mono ?_
 rintro e w1 ⟨rfl, rfl⟩
 go_wp2_with fail
 generalize hW : World.alloc (World.alloc w _) _ = W1
 have HR : Blk W1 (w.heap.size + 1) 114 #[.int .u64 0, .int .u64 0, .int .u64 0, .int .u64 0] := by
  subst hW
  skip
  exact Blk.new' (by simp) _ _
 have HB : Below w.heap.size w W1 := by
  subst hW
  repeat (first | exact Below.refl _ _ | refine Below.setCell ?_ (by simp) _ | refine Below.alloc ?_ (by simp) _ | refine Below.alloc ?_ (Nat.le_refl _) _)
 clear hW
 refine (CP.out _).mono ?_
 rintro e w1 ⟨rfl, hb⟩
 have HR1 := HR.below hb HR.lt
 have HB1 := HB.trans (hb.mono HB.size)
 clear hb HR HB
 have k0 := HR1.cell 0; have k1 := HR1.cell 1; have k2 := HR1.cell 2; have k3 := HR1.cell 3
 have z0 := HR1.frozen 0; have z1 := HR1.frozen 1; have z2 := HR1.frozen 2; have z3 := HR1.frozen 3
 simp only [List.getElem?_toArray, List.getElem?_cons_zero, List.getElem?_cons_succ] at k0 k1 k2 k3
 go_wp2
 have HF : Blk ((((w1.setCell ⟨w.heap.size + 1, 0, none⟩ (.int .u64 u0)).setCell ⟨w.heap.size + 1, 1, none⟩ (.int .u64 u1)).setCell ⟨w.heap.size + 1, 2, none⟩ (.int .u64 u2)).setCell ⟨w.heap.size + 1, 3, none⟩ (.int .u64 u3)) (w.heap.size + 1) 114 #[.int .u64 u0, .int .u64 u1, .int .u64 u2, .int .u64 u3] :=
  (((HR1.set 0 _).set 1 _).set 2 _).set 3 _
 exact bodyPost_ret (results_cell_row rfl _ _ _ 114 _ (0, 0) _ rfl HF Tryz.underlying114 rfl (info4 _ _ _ _)) rfl ⟨rfl, (((HB1.setCell (p := ⟨w.heap.size + 1, 0, none⟩) (by simp) _).setCell (p := ⟨w.heap.size + 1, 1, none⟩) (by simp) _).setCell (p := ⟨w.heap.size + 1, 2, none⟩) (by simp) _).setCell (p := ⟨w.heap.size + 1, 3, none⟩) (by simp) _⟩
end Go.Proofs.YtegbnadnodlalaaGreatDoor.Sc
namespace Go.Proofs.YtegbnadnodlalaaGreatDoor.Sc
open Go.RowKit
inductive Fact where
 | blk (g : Nat) (t : TypeId) (cs : Array Value)
def Fact.at : Fact → World → Prop
 | .blk g t cs, w => Blk w g t cs
def Facts (L : List Fact) (w : World) : Prop := ∀ f ∈ L, f.at w
theorem Fact.at.below {f : Fact} {w w1 : World} (h : f.at w) (hb : Below w.heap.size w w1) : f.at w1 := by
 cases f with
 | blk g t cs => exact Blk.below' h hb
theorem Facts.below {L : List Fact} {w w1 : World} (h : Facts L w) (hb : Below w.heap.size w w1) : Facts L w1 := fun f hf => (h f hf).below hb
theorem Facts.drew {L : List Fact} {w : World} (h : Facts L w) : Facts L w.drew := h.below (below_drew (Below.refl _ _))
theorem Facts.nil {w : World} : Facts [] w := fun _ h => by cases h
theorem Facts.cons {f : Fact} {L : List Fact} {w : World} (h : f.at w) (hl : Facts L w) : Facts (f :: L) w := fun x hx => by
 rcases List.mem_cons.1 hx with rfl | hx
 · exact h
 · exact hl x hx
theorem Facts.blkAt {L : List Fact} {w : World} (h : Facts L w) (g : Nat) (t : TypeId) (cs : Array Value) (hm : Fact.blk g t cs ∈ L) : Blk w g t cs := h _ hm
/-- A whole row loaded, named by its value. -/
theorem yieldsIf_load {P : Program} {ops : Array Oper} {L : List Fact} {o : Oper} {a : Act} (hgd : Region.wanted o (yielded ops a.tmps) = true) (ty : TypeId) (x : Operand) (ho : o.op = .load ty x) (g : Nat) (hx : a.eval x = .pointer (some ⟨g, 0, none⟩))
  (t : TypeId) (cs : Array Value) (d : TypeDesc) (hm : Fact.blk g t cs ∈ L) (hu : P.underlying ty = some d) (hd : (match d with | .struct _ | .array _ _ => true | _ => false) = true) (hi : (P.info? ty).map (·.size) = some cs.size) :
  YieldsIf P ops (Facts L) o (.agg cs) a := yieldsIf_row_wanted hgd ty x ho g hx t cs d (fun _ h => h.blkAt g t cs hm) hu hd hi
theorem job_frame {P : Program} {ops : Array Oper} {Q : Exit → Act → World → Prop} {S : World → Prop} {J : List Job} {j : Job} {val : Nat → Value} {a : Act} {R : Value → World → Prop} (J' : List Job) (hp : predsOf ops J j = J') (h : JobAt P ops Q S (putAll val J' a) j R) :
  JobAt P ops Q S (putAll val (predsOf ops J j) a) j R := hp ▸ h
theorem words_v (l : List Int) (f : Nat → Nat) (hl : Bytes32 l f) (X : Nat) (hX : X = leTo f 32) (w : World) : Calls Tryz.prog 70 #[Key l] w fun e w' => e = .returned (Nm X) ∧ Below w.heap.size w w' := hX ▸ swords_any l f hl w
theorem product_v (A B C P : Nat) (hA : A < pw 4) (hB : B < pw 4) (hC : C < pw 4) (hP : P = A * B + C) (w : World) : Calls Tryz.prog 69 #[Nm A, Nm B, Nm C] w fun e w' => e = .returned (.agg (W8 (wordAt P))) ∧ Below w.heap.size w w' := hP ▸ product_any A B C w hA hB hC
theorem bytes32_lt {l : List Int} {f : Nat → Nat} (hl : Bytes32 l f) : leTo f 32 < pw 4 := leTo_lt f hl.lt 32
theorem blk_ne {w : World} {g k : Nat} {t u : TypeId} {cs ds : Array Value} (h : Blk w g t cs) (h' : Blk w k u ds) (hn : t ≠ u) : g ≠ k := fun e => by
 subst e
 have := h.symm.trans h'
 simp only [Option.some.injEq, Obj.cells.injEq] at this
 exact hn this.2.1
end Go.Proofs.YtegbnadnodlalaaGreatDoor.Sc
