/- The contract of the reference's Read (printed by genqe.py). -/
import Derived.Test.YtjaomgildhiddaaDoorQd
import Derived.Test.YtjaomgildhiddaaDoorPn
namespace Go.Proofs.YtjaomgildhiddaaDoor
open Go.RowKit
open Ed
theorem p_w (w : World) : Calls Tryd.prog 12 #[] w (RetL w pp) := retL_ofSl (p_any w) pF_num (by decide)
theorem pow_16 : p256 = 65536 ^ 16 := by decide +kernel
theorem less_w (u v : Value) (U V : Nat) (c : Bool) (w : World) (hu : LongIs w u U) (hv : LongIs w v V) (hc : decide (U < V) = c) : Calls Tryd.prog 39 #[u, v] w fun e w' => e = .returned (.bool c) ∧ Below w.heap.size w w' := by
  obtain ⟨g, n, k, f, rfl, h1, h2, h3⟩ := hu
  obtain ⟨g', n', k', f', rfl, h1', h2', h3'⟩ := hv
  have h := less_any g n k g' n' k' f f' w h1 h1' (by omega) (by omega)
  rw [h2, h2', hc] at h
  refine h.mono ?_
  rintro e w' ⟨rfl, rfl⟩
  exact ⟨rfl, Below.refl _ _⟩
theorem same_w (u v : Value) (U V : Nat) (c : Bool) (w : World) (hu : LongIs w u U) (hv : LongIs w v V) (hc : decide (U = V) = c) : Calls Tryd.prog 46 #[u, v] w fun e w' => e = .returned (.bool c) ∧ Below w.heap.size w w' := by
  obtain ⟨g, n, k, f, rfl, h1, h2, h3⟩ := hu
  obtain ⟨g', n', k', f', rfl, h1', h2', h3'⟩ := hv
  have h := rsame_any g n k g' n' k' f f' w h1 h1' (by omega) (by omega)
  rw [h2, h2', hc] at h
  exact h
theorem rpow_v (u v : Value) (U V R : Nat) (w : World) (hu : LongIs w u U) (hv : LongIs w v V) (hR : R = mpow U V) : Calls Tryd.prog 45 #[u, v] w (RetL w R) := by
  obtain ⟨g, n, c, f, rfl, h1, h2, h3⟩ := hu
  obtain ⟨g', n', c', f', rfl, h1', h2', h3'⟩ := hv
  exact retL_of (rpow_any g n c g' n' c' f f' w h1 h1' h3 (by omega)) (by rw [h2, h2', hR, mpow])
theorem info_zR : (Tryd.prog.info? 42).map (·.size) = some zR.size := by
  show _ = some 3
  kernel_rfl
theorem info_Rc3 (x y z : Value) : (Tryd.prog.info? 42).map (·.size) = some (#[x, y, z] : Array Value).size := by
  show _ = some 3
  kernel_rfl
theorem zR_one : zR.all (·.oneCell') = true := by simp [zR, Value.oneCell']
/-- Halves, in place. -/
def halves : Nat → (Nat → Nat) → Nat → Nat
  | 0, f => f
  | m + 1, f => halfF (halves m f)
theorem halves_lt (f : Nat → Nat) (hf : ∀ i, f i < 65536) : ∀ m i, halves m f i < 65536
  | 0 => hf
  | m + 1 => fun i => halfF_lt _ (halves_lt f hf m) i
theorem halves_high (f : Nat → Nat) (n : Nat) (hh : ∀ i, n ≤ i → f i = 0) : ∀ m i, n ≤ i → halves m f i = 0
  | 0 => hh
  | m + 1 => fun i hi => by
    have h1 := halves_high f n hh m i hi
    have h2 := halves_high f n hh m (i + 1) (by omega)
    show halves m f i / 2 + halves m f (i + 1) % 2 * 32768 = 0
    rw [h1, h2]
theorem halves_val (f : Nat → Nat) (hf : ∀ i, f i < 65536) (n : Nat) (hh : ∀ i, n ≤ i → f i = 0) : ∀ m, lv (halves m f) n = lv f n / 2 ^ m
  | 0 => by rw [Nat.pow_zero, Nat.div_one]; rfl
  | m + 1 => by
    have h := half_num (halves m f) n
    rw [halves_high f n hh m n (Nat.le_refl _), Nat.zero_mod, Nat.zero_mul, Nat.add_zero, halves_val f hf n hh m] at h
    rw [Nat.pow_succ, ← Nat.div_div_eq_div_mul]
    show lv (halfF (halves m f)) n = _
    omega
def mixF (h : Nat → Nat) (k i : Nat) : Nat := if i < k then halfF h i else h i
theorem mixF_zero (h : Nat → Nat) : mixF h 0 = h := funext fun i => if_neg (by omega)
theorem mixF_at (h : Nat → Nat) (k : Nat) : mixF h k k = h k := if_neg (by omega)
theorem mixF_next (h : Nat → Nat) (k : Nat) : mixF h k (k + 1) = h (k + 1) := if_neg (by omega)
theorem mixF_lt (h : Nat → Nat) (hh : ∀ i, h i < 65536) (k i : Nat) : mixF h k i < 65536 := by
  unfold mixF
  split
  · exact halfF_lt h hh i
  · exact hh i
theorem mixF_high (h : Nat → Nat) (n : Nat) (hh : ∀ i, n ≤ i → h i = 0) (k i : Nat) (hi : n ≤ i) : mixF h k i = 0 := by
  unfold mixF
  split
  · show h i / 2 + h (i + 1) % 2 * 32768 = 0
    rw [hh i hi, hh (i + 1) (by omega)]
  · exact hh i hi
theorem mixF_full (h : Nat → Nat) (n : Nat) (hh : ∀ i, n ≤ i → h i = 0) : mixF h n = halfF h := funext fun i => by
  unfold mixF
  split
  · rfl
  · rw [hh i (by omega)]
    show 0 = h i / 2 + h (i + 1) % 2 * 32768
    rw [hh i (by omega), hh (i + 1) (by omega)]
theorem mixF_set (h : Nat → Nat) (k n : Nat) : ((List.range n).map fun i => ((mixF h k i : Nat) : Int)).set k ((halfF h k : Nat) : Int) = (List.range n).map fun i => ((mixF h (k + 1) i : Nat) : Int) := by
  apply List.ext_getElem (by simp)
  intro i h1 h2
  rw [List.getElem_set]
  split
  · next e =>
    subst e
    simp [mixF]
  · next e =>
    simp only [List.getElem_map, List.getElem_range]
    congr 1
    unfold mixF
    by_cases c : i < k
    · rw [if_pos c, if_pos (by omega)]
    · rw [if_neg c, if_neg (by omega)]
theorem sumF_lt (i : Nat) : sumF 17 pF (numF 3) i < 65536 := by unfold sumF; split <;> omega
theorem sumF_high (i : Nat) (h : 17 ≤ i) : sumF 17 pF (numF 3) i = 0 := by unfold sumF; rw [if_neg (by omega)]
theorem sum_p3 : lv (sumF 17 pF (numF 3)) 17 = pp + 3 := by rw [pp_eq]; decide +kernel
theorem subF_lt (i : Nat) : subF 16 pF (numF 1) i < 65536 := by unfold subF; split <;> omega
theorem subF_high (i : Nat) (h : 16 ≤ i) : subF 16 pF (numF 1) i = 0 := by unfold subF; rw [if_neg (by omega)]
theorem sub_p1 : lv (subF 16 pF (numF 1)) 16 = pp - 1 := by rw [pp_eq]; decide +kernel

set_option maxHeartbeats 8000000 in
set_option maxRecDepth 100000 in
theorem rread_A (N M b bv o : Nat) (w : World) (hM : M < p256) (hb : byteAt N 31 = b) (ho : ((b : Nat) : Int) / 128 = (o : Int)) (hv : bits .and .u8 (b : Int) 127 = (bv : Int)) (hl : (keyOf N).set 31 (bv : Int) = keyOf M) (hlt : decide (M < pp) = false) :
    Calls Tryd.prog 16 #[Key (keyOf N)] w fun e w' => e = .returned (.tuple #[.agg zR, .bool false]) ∧ Below w.heap.size w w' := by
  have HB := Lib.hid hb
  have HO := Lib.hid ho
  have HV := Lib.hid hv
  have HL := Lib.hid hl
  have HLT := Lib.hid hlt
  clear hb ho hv hl hlt
  unfold Key
  go_enter Tryd.func16, Tryd.ntmps16
  go_upto_region 1 with fail
  generalize hW : World.alloc (World.alloc w _) _ = W
  have hB : Below w.heap.size w W := hW ▸ ((Below.refl w.heap.size w).alloc (Nat.le_refl _) _).alloc (by simp) _
  have K0 : Blk W (w.heap.size) 23 (Iv .u8 (keyOf N)) := hW ▸ (Blk.new' (by simp) _ _).alloc _
  have KR : Blk W (w.heap.size + 1) 42 zR := hW ▸ (Blk.new' (by simp) _ _)
  clear hW
  have c0 := key_cellj K0 31 (by decide)
  rw [HB.out] at c0
  have f0 := K0.frozen 31
  have hsh := HO.out
  have hand := HV.out
  go_upto_region 3 with fail
  replace K0 := K0.set 31 (.int .u8 (bv : Int))
  rw [Iv_set, HL.out] at K0
  replace KR : Blk _ _ _ _ := KR.far (p := ⟨w.heap.size, 31, none⟩) (by show w.heap.size + 1 ≠ w.heap.size; omega) (.int .u8 (bv : Int))
  replace hB := hB.setCell (p := ⟨w.heap.size, 31, none⟩) (Nat.le_refl _) (.int .u8 (bv : Int))
  clear c0 f0 hsh hand
  generalize World.setCell _ _ _ = V at *
  go_wp2_with fail
  refine (rof_any w.heap.size 23 _ _ (keyOf_bytes M) _ K0).mono ?_
  rintro _ w1 ⟨gy, cy, rfl, Sy, _, b⟩
  have hy : LongIs w1 (SlV gy 16 cy) M := ⟨gy, 16, cy, _, rfl, Sy, by rw [d_num, leTo_byteAt32 hM]; exact Nat.mod_eq_of_lt (by rw [← pow_16]; exact hM), by decide⟩
  generalize SlV gy 16 cy = vy at *
  clear Sy K0
  replace KR := KR.below' b
  replace hB := hB.trans (b.mono hB.size)
  clear b
  go_wp2_with fail
  refine (p_w _).mono ?_
  rintro _ w2 ⟨vp, rfl, hp, b⟩
  replace hy := hy.below b
  replace KR := KR.below' b
  replace hB := hB.trans (b.mono hB.size)
  clear b
  go_wp2_with fail
  refine (less_w vy vp M pp false _ hy hp HLT.out).mono ?_
  rintro _ w3 ⟨rfl, b⟩
  replace hy := hy.below b
  replace hp := hp.below b
  replace KR := KR.below' b
  replace hB := hB.trans (b.mono hB.size)
  clear b
  clear hp
  clear hy
  go_upto_region 5 with fail
  go_wp2_with (refine wpList_store_row rfl 42 _ _ rfl (w.heap.size + 1) zR rfl rfl 42 _ KR info_zR rfl zR_one ?_)
  exact bodyPost_ret (results_cell_tmp rfl _ _ _ 42 _ (0, 0) _ _ rfl (KR.row _) Tryd.underlying42 rfl info_zR rfl) rfl ⟨rfl, below_setRow hB (by omega) _⟩
set_option maxHeartbeats 8000000 in
set_option maxRecDepth 100000 in
theorem rread_B (N M b bv o : Nat) (w : World) (hM : M < p256) (hb : byteAt N 31 = b) (ho : ((b : Nat) : Int) / 128 = (o : Int)) (hv : bits .and .u8 (b : Int) 127 = (bv : Int)) (hl : (keyOf N).set 31 (bv : Int) = keyOf M) (hlt : decide (M < pp) = true) (WN : Nat) (hw : WN = wNum M) (hsq : rSquare WN = false) :
    Calls Tryd.prog 16 #[Key (keyOf N)] w fun e w' => e = .returned (.tuple #[.agg zR, .bool false]) ∧ Below w.heap.size w w' := by
  have HB := Lib.hid hb
  have HO := Lib.hid ho
  have HV := Lib.hid hv
  have HL := Lib.hid hl
  have HLT := Lib.hid hlt
  clear hb ho hv hl hlt
  have HW := Lib.hid hw
  clear hw
  have HSQ := Lib.hid hsq
  clear hsq
  unfold Key
  go_enter Tryd.func16, Tryd.ntmps16
  go_upto_region 1 with fail
  generalize hW : World.alloc (World.alloc w _) _ = W
  have hB : Below w.heap.size w W := hW ▸ ((Below.refl w.heap.size w).alloc (Nat.le_refl _) _).alloc (by simp) _
  have K0 : Blk W (w.heap.size) 23 (Iv .u8 (keyOf N)) := hW ▸ (Blk.new' (by simp) _ _).alloc _
  have KR : Blk W (w.heap.size + 1) 42 zR := hW ▸ (Blk.new' (by simp) _ _)
  clear hW
  have c0 := key_cellj K0 31 (by decide)
  rw [HB.out] at c0
  have f0 := K0.frozen 31
  have hsh := HO.out
  have hand := HV.out
  go_upto_region 3 with fail
  replace K0 := K0.set 31 (.int .u8 (bv : Int))
  rw [Iv_set, HL.out] at K0
  replace KR : Blk _ _ _ _ := KR.far (p := ⟨w.heap.size, 31, none⟩) (by show w.heap.size + 1 ≠ w.heap.size; omega) (.int .u8 (bv : Int))
  replace hB := hB.setCell (p := ⟨w.heap.size, 31, none⟩) (Nat.le_refl _) (.int .u8 (bv : Int))
  clear c0 f0 hsh hand
  generalize World.setCell _ _ _ = V at *
  go_wp2_with fail
  refine (rof_any w.heap.size 23 _ _ (keyOf_bytes M) _ K0).mono ?_
  rintro _ w1 ⟨gy, cy, rfl, Sy, _, b⟩
  have hy : LongIs w1 (SlV gy 16 cy) M := ⟨gy, 16, cy, _, rfl, Sy, by rw [d_num, leTo_byteAt32 hM]; exact Nat.mod_eq_of_lt (by rw [← pow_16]; exact hM), by decide⟩
  generalize SlV gy 16 cy = vy at *
  clear Sy K0
  replace KR := KR.below' b
  replace hB := hB.trans (b.mono hB.size)
  clear b
  go_wp2_with fail
  refine (p_w _).mono ?_
  rintro _ w2 ⟨vp, rfl, hp, b⟩
  replace hy := hy.below b
  replace KR := KR.below' b
  replace hB := hB.trans (b.mono hB.size)
  clear b
  go_wp2_with fail
  refine (less_w vy vp M pp true _ hy hp HLT.out).mono ?_
  rintro _ w3 ⟨rfl, b⟩
  replace hy := hy.below b
  replace hp := hp.below b
  replace KR := KR.below' b
  replace hB := hB.trans (b.mono hB.size)
  clear b
  clear hp
  go_wp2_with fail
  refine (rmul_v vy vy M M (fm M M) _ hy hy rfl).mono ?_
  rintro _ w4 ⟨vyy, rfl, hyy, b⟩
  replace hy := hy.below b
  replace KR := KR.below' b
  replace hB := hB.trans (b.mono hB.size)
  clear b
  go_wp2_with fail
  refine (num_v 1 (by decide) _).mono ?_
  rintro _ w5 ⟨v1, rfl, h1, b⟩
  replace hy := hy.below b
  replace hyy := hyy.below b
  replace KR := KR.below' b
  replace hB := hB.trans (b.mono hB.size)
  clear b
  go_wp2_with fail
  refine (rsub_v vyy v1 (fm M M) 1 (fs (fm M M) 1) _ hyy h1 one_lt rfl).mono ?_
  rintro _ w6 ⟨vs, rfl, hs, b⟩
  replace hy := hy.below b
  replace hyy := hyy.below b
  replace h1 := h1.below b
  replace KR := KR.below' b
  replace hB := hB.trans (b.mono hB.size)
  clear b
  clear h1
  go_wp2_with fail
  refine (rd_v _).mono ?_
  rintro _ w7 ⟨vd, rfl, hd, b⟩
  replace hy := hy.below b
  replace hyy := hyy.below b
  replace hs := hs.below b
  replace KR := KR.below' b
  replace hB := hB.trans (b.mono hB.size)
  clear b
  go_wp2_with fail
  refine (rmul_v vd vyy dN (fm M M) (fm dN (fm M M)) _ hd hyy rfl).mono ?_
  rintro _ w8 ⟨vm, rfl, hm, b⟩
  replace hy := hy.below b
  replace hyy := hyy.below b
  replace hs := hs.below b
  replace hd := hd.below b
  replace KR := KR.below' b
  replace hB := hB.trans (b.mono hB.size)
  clear b
  clear hd hyy
  go_wp2_with fail
  refine (num_v 1 (by decide) _).mono ?_
  rintro _ w9 ⟨v1, rfl, h1, b⟩
  replace hy := hy.below b
  replace hs := hs.below b
  replace hm := hm.below b
  replace KR := KR.below' b
  replace hB := hB.trans (b.mono hB.size)
  clear b
  go_wp2_with fail
  refine (radd_v vm v1 (fm dN (fm M M)) 1 (fa (fm dN (fm M M)) 1) _ hm h1 rfl).mono ?_
  rintro _ w10 ⟨va, rfl, ha, b⟩
  replace hy := hy.below b
  replace hs := hs.below b
  replace hm := hm.below b
  replace h1 := h1.below b
  replace KR := KR.below' b
  replace hB := hB.trans (b.mono hB.size)
  clear b
  clear hm h1
  go_wp2_with fail
  refine (rover_v va (fa (fm dN (fm M M)) 1) (pinv (fa (fm dN (fm M M)) 1)) _ ha rfl).mono ?_
  rintro _ w11 ⟨vi, rfl, hi, b⟩
  replace hy := hy.below b
  replace hs := hs.below b
  replace ha := ha.below b
  replace KR := KR.below' b
  replace hB := hB.trans (b.mono hB.size)
  clear b
  clear ha
  go_wp2_with fail
  refine (rmul_v vs vi (fs (fm M M) 1) (pinv (fa (fm dN (fm M M)) 1)) WN _ hs hi HW.out).mono ?_
  rintro _ w12 ⟨vw, rfl, hw, b⟩
  replace hy := hy.below b
  replace hs := hs.below b
  replace hi := hi.below b
  replace KR := KR.below' b
  replace hB := hB.trans (b.mono hB.size)
  clear b
  clear hs hi
  go_wp2_with fail
  refine (rsquare_v vw WN false _ hw HSQ.out).mono ?_
  rintro _ w13 ⟨rfl, b⟩
  replace hy := hy.below b
  replace hw := hw.below b
  replace KR := KR.below' b
  replace hB := hB.trans (b.mono hB.size)
  clear b
  clear hy hw
  go_upto_region 9 with fail
  go_wp2_with (refine wpList_store_row rfl 42 _ _ rfl (w.heap.size + 1) zR rfl rfl 42 _ KR info_zR rfl zR_one ?_)
  exact bodyPost_ret (results_cell_tmp rfl _ _ _ 42 _ (0, 0) _ _ rfl (KR.row _) Tryd.underlying42 rfl info_zR rfl) rfl ⟨rfl, below_setRow hB (by omega) _⟩
end Go.Proofs.YtjaomgildhiddaaDoor
/- The reference's Read, a case (printed by genqe.py). -/
namespace Go.Proofs.YtjaomgildhiddaaDoor
open Go.RowKit
open Ed
set_option maxHeartbeats 8000000 in
set_option maxRecDepth 100000 in
theorem rread_1T1 (N M b bv o : Nat) (w : World) (hM : M < p256) (hb : byteAt N 31 = b) (ho : ((b : Nat) : Int) / 128 = (o : Int)) (hv : bits .and .u8 (b : Int) 127 = (bv : Int)) (hl : (keyOf N).set 31 (bv : Int) = keyOf M) (hlt : decide (M < pp) = true) (WN X1 : Nat) (hw : WN = wNum M) (hsq : rSquare WN = true) (hx1 : X1 = mpow WN 7237005577332262213973186563042994240829374041602535252466099000494570602494) (hc1 : decide (fm X1 X1 = WN) = true) (lX1 : X1 < pp) (hz : decide (X1 = 0) = true) (h8 : (o : Int) = 1) :
    Calls Tryd.prog 16 #[Key (keyOf N)] w fun e w' => e = .returned (.tuple #[.agg zR, .bool false]) ∧ Below w.heap.size w w' := by
  have HB := Lib.hid hb
  have HO := Lib.hid ho
  have HV := Lib.hid hv
  have HL := Lib.hid hl
  have HLT := Lib.hid hlt
  clear hb ho hv hl hlt
  have HW := Lib.hid hw
  clear hw
  have HSQ := Lib.hid hsq
  clear hsq
  have HX1 := Lib.hid hx1
  clear hx1
  have HC1 := Lib.hid hc1
  clear hc1
  have HZ := Lib.hid hz
  clear hz
  have H8 := Lib.hid h8
  clear h8
  unfold Key
  go_enter Tryd.func16, Tryd.ntmps16
  go_upto_region 1 with fail
  generalize hW : World.alloc (World.alloc w _) _ = W
  have hB : Below w.heap.size w W := hW ▸ ((Below.refl w.heap.size w).alloc (Nat.le_refl _) _).alloc (by simp) _
  have K0 : Blk W (w.heap.size) 23 (Iv .u8 (keyOf N)) := hW ▸ (Blk.new' (by simp) _ _).alloc _
  have KR : Blk W (w.heap.size + 1) 42 zR := hW ▸ (Blk.new' (by simp) _ _)
  clear hW
  have c0 := key_cellj K0 31 (by decide)
  rw [HB.out] at c0
  have f0 := K0.frozen 31
  have hsh := HO.out
  have hand := HV.out
  go_upto_region 3 with fail
  replace K0 := K0.set 31 (.int .u8 (bv : Int))
  rw [Iv_set, HL.out] at K0
  replace KR : Blk _ _ _ _ := KR.far (p := ⟨w.heap.size, 31, none⟩) (by show w.heap.size + 1 ≠ w.heap.size; omega) (.int .u8 (bv : Int))
  replace hB := hB.setCell (p := ⟨w.heap.size, 31, none⟩) (Nat.le_refl _) (.int .u8 (bv : Int))
  clear c0 f0 hsh hand
  generalize World.setCell _ _ _ = V at *
  go_wp2_with fail
  refine (rof_any w.heap.size 23 _ _ (keyOf_bytes M) _ K0).mono ?_
  rintro _ w1 ⟨gy, cy, rfl, Sy, _, b⟩
  have hy : LongIs w1 (SlV gy 16 cy) M := ⟨gy, 16, cy, _, rfl, Sy, by rw [d_num, leTo_byteAt32 hM]; exact Nat.mod_eq_of_lt (by rw [← pow_16]; exact hM), by decide⟩
  generalize SlV gy 16 cy = vy at *
  clear Sy K0
  replace KR := KR.below' b
  replace hB := hB.trans (b.mono hB.size)
  clear b
  go_wp2_with fail
  refine (p_w _).mono ?_
  rintro _ w2 ⟨vp, rfl, hp, b⟩
  replace hy := hy.below b
  replace KR := KR.below' b
  replace hB := hB.trans (b.mono hB.size)
  clear b
  go_wp2_with fail
  refine (less_w vy vp M pp true _ hy hp HLT.out).mono ?_
  rintro _ w3 ⟨rfl, b⟩
  replace hy := hy.below b
  replace hp := hp.below b
  replace KR := KR.below' b
  replace hB := hB.trans (b.mono hB.size)
  clear b
  clear hp
  go_wp2_with fail
  refine (rmul_v vy vy M M (fm M M) _ hy hy rfl).mono ?_
  rintro _ w4 ⟨vyy, rfl, hyy, b⟩
  replace hy := hy.below b
  replace KR := KR.below' b
  replace hB := hB.trans (b.mono hB.size)
  clear b
  go_wp2_with fail
  refine (num_v 1 (by decide) _).mono ?_
  rintro _ w5 ⟨v1, rfl, h1, b⟩
  replace hy := hy.below b
  replace hyy := hyy.below b
  replace KR := KR.below' b
  replace hB := hB.trans (b.mono hB.size)
  clear b
  go_wp2_with fail
  refine (rsub_v vyy v1 (fm M M) 1 (fs (fm M M) 1) _ hyy h1 one_lt rfl).mono ?_
  rintro _ w6 ⟨vs, rfl, hs, b⟩
  replace hy := hy.below b
  replace hyy := hyy.below b
  replace h1 := h1.below b
  replace KR := KR.below' b
  replace hB := hB.trans (b.mono hB.size)
  clear b
  clear h1
  go_wp2_with fail
  refine (rd_v _).mono ?_
  rintro _ w7 ⟨vd, rfl, hd, b⟩
  replace hy := hy.below b
  replace hyy := hyy.below b
  replace hs := hs.below b
  replace KR := KR.below' b
  replace hB := hB.trans (b.mono hB.size)
  clear b
  go_wp2_with fail
  refine (rmul_v vd vyy dN (fm M M) (fm dN (fm M M)) _ hd hyy rfl).mono ?_
  rintro _ w8 ⟨vm, rfl, hm, b⟩
  replace hy := hy.below b
  replace hyy := hyy.below b
  replace hs := hs.below b
  replace hd := hd.below b
  replace KR := KR.below' b
  replace hB := hB.trans (b.mono hB.size)
  clear b
  clear hd hyy
  go_wp2_with fail
  refine (num_v 1 (by decide) _).mono ?_
  rintro _ w9 ⟨v1, rfl, h1, b⟩
  replace hy := hy.below b
  replace hs := hs.below b
  replace hm := hm.below b
  replace KR := KR.below' b
  replace hB := hB.trans (b.mono hB.size)
  clear b
  go_wp2_with fail
  refine (radd_v vm v1 (fm dN (fm M M)) 1 (fa (fm dN (fm M M)) 1) _ hm h1 rfl).mono ?_
  rintro _ w10 ⟨va, rfl, ha, b⟩
  replace hy := hy.below b
  replace hs := hs.below b
  replace hm := hm.below b
  replace h1 := h1.below b
  replace KR := KR.below' b
  replace hB := hB.trans (b.mono hB.size)
  clear b
  clear hm h1
  go_wp2_with fail
  refine (rover_v va (fa (fm dN (fm M M)) 1) (pinv (fa (fm dN (fm M M)) 1)) _ ha rfl).mono ?_
  rintro _ w11 ⟨vi, rfl, hi, b⟩
  replace hy := hy.below b
  replace hs := hs.below b
  replace ha := ha.below b
  replace KR := KR.below' b
  replace hB := hB.trans (b.mono hB.size)
  clear b
  clear ha
  go_wp2_with fail
  refine (rmul_v vs vi (fs (fm M M) 1) (pinv (fa (fm dN (fm M M)) 1)) WN _ hs hi HW.out).mono ?_
  rintro _ w12 ⟨vw, rfl, hw, b⟩
  replace hy := hy.below b
  replace hs := hs.below b
  replace hi := hi.below b
  replace KR := KR.below' b
  replace hB := hB.trans (b.mono hB.size)
  clear b
  clear hs hi
  go_wp2_with fail
  refine (rsquare_v vw WN true _ hw HSQ.out).mono ?_
  rintro _ w13 ⟨rfl, b⟩
  replace hy := hy.below b
  replace hw := hw.below b
  replace KR := KR.below' b
  replace hB := hB.trans (b.mono hB.size)
  clear b
  have b0 := Below.refl w13.heap.size w13
  go_wp2_with fail
  refine (p_any _).mono ?_
  rintro _ w14 ⟨gp, cp, rfl, SP, _, b⟩
  replace b0 := b0.trans (b.mono b0.size)
  clear b
  unfold SlV
  go_wp2_with fail
  refine (num_any 3 _ (by decide)).mono ?_
  rintro _ w15 ⟨g2, c2, rfl, S2, _, b⟩
  replace SP := SP.below b
  replace b0 := b0.trans (b.mono b0.size)
  clear b
  unfold SlV
  go_wp2_with fail
  refine (sum_blk gp 16 cp g2 2 c2 _ _ _ SP S2 (by decide) (by decide)).mono ?_
  rintro _ w16 ⟨ge, ce, rfl, HE, hge, b⟩
  replace hge := Nat.le_trans b0.size hge
  replace b0 := b0.trans (b.mono b0.size)
  clear b SP S2
  have e17 : maxN 16 2 + 1 = 17 := rfl
  rw [e17] at HE
  obtain ⟨f, hf, f1, f2, f3⟩ : ∃ f, f = sumF 17 pF (numF 3) ∧ (∀ i, f i < 65536) ∧ (∀ i, 17 ≤ i → f i = 0) ∧ lv f 17 = pp + 3 := ⟨_, rfl, sumF_lt, sumF_high, sum_p3⟩
  rw [← hf] at HE
  clear hf
  unfold SlV
  go_wp2_with fail
  go_loopw [9] (fun i wr => ∃ m : Nat, m ≤ 3 ∧ i = .int .i64 m ∧ Blk wr ge 30 (Iv .u32 ((List.range 17).map fun i => ((halves m f i : Nat) : Int))) ∧ Below w13.heap.size w13 wr) (fun i _ => 3 - (intOf i).toNat)
  case atStart => exact ⟨0, by omega, rfl, HE, b0⟩
  case round =>
    obtain ⟨m, hm, rfl, HE2, b2⟩ := hrel
    clear HE b0
    by_cases hmlt : m < 3
    · have hh1 := halves_lt f f1 m
      have hh2 := halves_high f 17 f2 m
      have hnext : halves (m + 1) f = halfF (halves m f) := rfl
      generalize halves m f = h at *
      have HX := Lib.hid hnext
      clear hnext
      have im1 : (m : Int) < 3 := by omega
      go_wp2_with fail
      go_loopw [10] (fun i wr => ∃ k : Nat, k ≤ 17 ∧ i = .int .i64 k ∧ Blk wr ge 30 (Iv .u32 ((List.range 17).map fun i => ((mixF h k i : Nat) : Int))) ∧ Below w13.heap.size w13 wr) (fun i _ => 17 - (intOf i).toNat)
      case atStart => exact ⟨0, by omega, rfl, by rw [mixF_zero]; exact HE2, b2⟩
      case round =>
        obtain ⟨k, hk, rfl, HE3, b3⟩ := hrel
        clear HE2 b2
        by_cases hlt : k < 17
        · have i1 : (0 : Int) ≤ (k : Int) := by omega
          have i2 : (k : Int) < 17 := by omega
          go_upto_region 17 with fail
          have G := HE3.drew
          have b4 := below_drew b3
          clear HE3 b3
          refine wp_region_Z (S := fun w' => w' = World.drew wr) 15 (by kernel_rfl) ?_
          generalize World.drew wr = V at G b4 ⊢
          have SG : Sl V ge 17 (mixF h k) := Sl.of_blk G (mixF_lt h hh1 k) (mixF_high h 17 hh2 k)
          have c1 : V.cell? ⟨ge, k, none⟩ = some (.int .u32 ((h k : Nat) : Int)) := by
            rw [SG.cell k hlt, mixF_at]
          have f9 := G.frozen k
          have PA : ∀ W, Sl W ge 17 (mixF h k) → Calls Tryd.prog 30 #[.slice (some ⟨ge, 0, none⟩) 17 ce, .int .i64 ((k : Int) + 1)] W fun e w' => e = .returned (.int .u32 ((h (k + 1) : Nat) : Int)) ∧ W = w' := fun W hS => by
            have := part_any ge 17 ce (mixF h k) (k + 1) W hS
            rw [mixF_next] at this
            exact this
          have l1 := hh1 k
          have l2 := hh1 (k + 1)
          have hp := half_part (h k) (h (k + 1)) l1 l2
          have i3 : IntKind.i64.wrap ((k : Int) + 1) = (k : Int) + 1 := by rw [IntKind.wrap_i64]; omega
          generalize hx : h k = x at c1 hp l1
          generalize hyy : h (k + 1) = y at PA hp l2
          have PAh := Lib.hid PA
          have HP := Lib.hid hp
          have HXX := Lib.hid hx
          have HYY := Lib.hid hyy
          clear PA hp hx hyy
          have hS : (fun w' => w' = V) V := rfl
          refine wpAnyZ_takeL 0 (v := ?_) rfl (by kernel_rfl) (by kernel_rfl) (by kernel_rfl) (by kernel_rfl) (by kernel_rfl) (fun _ _ _ h => h) (Or.inl ⟨by rfl, ?_⟩) hS ?_
          rotate_left
          · intro w' hw'
            obtain rfl : w' = V := hw'
            go_simp
            try (with_reducible rfl)
          simp only [Act.put, List.setIfInBounds_toArray, List.set_cons_zero, List.set_cons_succ]
          refine wpAnyZ_takeL 1 (v := ?_) rfl (by kernel_rfl) (by kernel_rfl) (by kernel_rfl) (by kernel_rfl) (by kernel_rfl) (fun _ _ _ h => h) (Or.inl ⟨by rfl, ?_⟩) hS ?_
          rotate_left
          · intro w' hw'
            obtain rfl : w' = V := hw'
            go_simp
            try (with_reducible rfl)
          simp only [Act.put, List.setIfInBounds_toArray, List.set_cons_zero, List.set_cons_succ]
          refine wpAnyZ_takeL 2 (v := ?_) rfl (by kernel_rfl) (by kernel_rfl) (by kernel_rfl) (by kernel_rfl) (by kernel_rfl) (fun _ _ _ h => h) (Or.inl ⟨by rfl, ?_⟩) hS ?_
          rotate_left
          · intro w' hw'
            obtain rfl : w' = V := hw'
            go_simp
            try (with_reducible rfl)
          simp only [Act.put, List.setIfInBounds_toArray, List.set_cons_zero, List.set_cons_succ]
          refine wpAnyZ_takeL 3 (v := ?_) rfl (by kernel_rfl) (by kernel_rfl) (by kernel_rfl) (by kernel_rfl) (by kernel_rfl) (fun _ _ _ h => h) (Or.inl ⟨by rfl, ?_⟩) hS ?_
          rotate_left
          · intro w' hw'
            obtain rfl : w' = V := hw'
            go_simp
            try (with_reducible rfl)
          simp only [Act.put, List.setIfInBounds_toArray, List.set_cons_zero, List.set_cons_succ]
          refine wpAnyZ_takeL 4 (v := ?_) rfl (by kernel_rfl) (by kernel_rfl) (by kernel_rfl) (by kernel_rfl) (by kernel_rfl) (fun _ _ _ h => h) (Or.inl ⟨by rfl, ?_⟩) hS ?_
          rotate_left
          · intro w' hw'
            obtain rfl : w' = V := hw'
            go_simp
            try (with_reducible rfl)
          simp only [Act.put, List.setIfInBounds_toArray, List.set_cons_zero, List.set_cons_succ]
          refine wpAnyZ_takeL 5 (v := ?_) rfl (by kernel_rfl) (by kernel_rfl) (by kernel_rfl) (by kernel_rfl) (by kernel_rfl) (fun _ _ _ h => h) (Or.inl ⟨by rfl, ?_⟩) hS ?_
          rotate_left
          · intro w' hw'
            obtain rfl : w' = V := hw'
            go_simp
            try (with_reducible rfl)
          simp only [Act.put, List.setIfInBounds_toArray, List.set_cons_zero, List.set_cons_succ]
          refine wpAnyZ_takeL 6 (v := ?_) rfl (by kernel_rfl) (by kernel_rfl) (by kernel_rfl) (by kernel_rfl) (by kernel_rfl) (fun _ _ _ h => h) (Or.inl ⟨by rfl, ?_⟩) hS ?_
          rotate_left
          · intro w' hw'
            obtain rfl : w' = V := hw'
            go_simp
            try (with_reducible rfl)
          simp only [Act.put, List.setIfInBounds_toArray, List.set_cons_zero, List.set_cons_succ]
          refine wpAnyZ_takeL 7 (v := ?_) rfl (by kernel_rfl) (by kernel_rfl) (by kernel_rfl) (by kernel_rfl) (by kernel_rfl) (fun _ _ _ h => h) (Or.inl ⟨by rfl, ?_⟩) hS ?_
          rotate_left
          · intro w' hw'
            obtain rfl : w' = V := hw'
            go_simp
            try (with_reducible rfl)
          simp only [Act.put, List.setIfInBounds_toArray, List.set_cons_zero, List.set_cons_succ]
          refine wpAnyZ_takeL 8 (v := ?_) rfl (by kernel_rfl) (by kernel_rfl) (by kernel_rfl) (by kernel_rfl) (by kernel_rfl) (fun _ _ _ h => h) (Or.inl ⟨by rfl, ?_⟩) hS ?_
          rotate_left
          · intro w' hw'
            obtain rfl : w' = V := hw'
            go_simp
            try (with_reducible rfl)
          simp only [Act.put, List.setIfInBounds_toArray, List.set_cons_zero, List.set_cons_succ]
          refine wpAnyZ_takeL 9 (v := ?_) rfl (by kernel_rfl) (by kernel_rfl) (by kernel_rfl) (by kernel_rfl) (by kernel_rfl) (fun _ _ _ h => h) (Or.inl ⟨by rfl, ?_⟩) hS ?_
          rotate_left
          · intro w' hw'
            obtain rfl : w' = V := hw'
            go_simp
            try (with_reducible rfl)
          simp only [Act.put, List.setIfInBounds_toArray, List.set_cons_zero, List.set_cons_succ]
          refine wpAnyZ_one (i := 10) (by kernel_rfl) ?_
          unfold wpOp
          go_simp
          left
          refine (PAh.out _ SG).mono ?_
          rintro e v4 ⟨rfl, rfl⟩
          refine ⟨hS, ?_⟩
          refine wpAnyZ_takeL 11 (v := ?_) rfl (by kernel_rfl) (by kernel_rfl) (by kernel_rfl) (by kernel_rfl) (by kernel_rfl) (fun _ _ _ h => h) (Or.inl ⟨by rfl, ?_⟩) hS ?_
          rotate_left
          · intro w' hw'
            obtain rfl : w' = V := hw'
            go_simp
            try (with_reducible rfl)
          simp only [Act.put, List.setIfInBounds_toArray, List.set_cons_zero, List.set_cons_succ]
          refine wpAnyZ_takeL 12 (v := ?_) rfl (by kernel_rfl) (by kernel_rfl) (by kernel_rfl) (by kernel_rfl) (by kernel_rfl) (fun _ _ _ h => h) (Or.inl ⟨by rfl, ?_⟩) hS ?_
          rotate_left
          · intro w' hw'
            obtain rfl : w' = V := hw'
            go_simp
            try (with_reducible rfl)
          simp only [Act.put, List.setIfInBounds_toArray, List.set_cons_zero, List.set_cons_succ]
          refine wpAnyZ_takeL 13 (v := ?_) rfl (by kernel_rfl) (by kernel_rfl) (by kernel_rfl) (by kernel_rfl) (by kernel_rfl) (fun _ _ _ h => h) (Or.inl ⟨by rfl, ?_⟩) hS ?_
          rotate_left
          · intro w' hw'
            obtain rfl : w' = V := hw'
            go_simp
            try (with_reducible rfl)
          simp only [Act.put, List.setIfInBounds_toArray, List.set_cons_zero, List.set_cons_succ]
          refine wpAnyZ_takeL 14 (v := ?_) rfl (by kernel_rfl) (by kernel_rfl) (by kernel_rfl) (by kernel_rfl) (by kernel_rfl) (fun _ _ _ h => h) (Or.inl ⟨by rfl, ?_⟩) hS ?_
          rotate_left
          · intro w' hw'
            obtain rfl : w' = V := hw'
            go_simp
            try (with_reducible rfl)
          simp only [Act.put, List.setIfInBounds_toArray, List.set_cons_zero, List.set_cons_succ]
          refine wpAnyZ_one (i := 15) (by kernel_rfl) ?_
          unfold wpOp
          go_simp
          left
          refine wpAnyZ_done (by kernel_rfl) ?_ _
          rw [HP.out]
          have G2 := G.set k (.int .u32 ((halfF h k : Nat) : Int))
          rw [Iv_set, mixF_set h k 17] at G2
          have ev : halfF h k = x / 2 + y % 2 * 32768 := by rw [← HXX.out, ← HYY.out]; rfl
          rw [ev] at G2
          have b5 := b4.setCell (p := ⟨ge, k, none⟩) hge (.int .u32 ((x / 2 + y % 2 * 32768 : Nat) : Int))
          clear c1 PAh HP HXX HYY f9 ev l1 l2 hS SG G b4
          go_wp2
          exact ⟨⟨k + 1, by omega, by go_num, G2, b5⟩, by simp [intOf]; omega⟩
        · obtain rfl : k = 17 := by omega
          rw [mixF_full h 17 hh2] at HE3
          go_wp2
          exact ⟨⟨m + 1, by omega, by go_num, by rw [HX.out]; exact HE3, b3⟩, by simp [intOf]; omega⟩
    · obtain rfl : m = 3 := by omega
      have hv := halves_val f f1 17 f2 3
      rw [f3] at hv
      have hh1 := halves_lt f f1 3
      have hh2 := halves_high f 17 f2 3
      generalize halves 3 f = h at *
      have SE := Sl.of_blk HE2 hh1 hh2
      have hE : lv h 17 = 7237005577332262213973186563042994240829374041602535252466099000494570602494 := by
        rw [hv, pp_eq]
      have hee : LongIs _ (SlV ge 17 ce) (lv h 17) := ⟨ge, 17, ce, h, rfl, SE, rfl, by decide⟩
      rw [hE] at hee
      clear hv hE SE HE2 hh1 hh2 f1 f2 f3
      have b := b2
      clear b2
      replace hy := hy.below b
      replace hw := hw.below b
      replace KR := KR.below' b
      replace hB := hB.trans (b.mono hB.size)
      clear b
      go_wp2_with fail
      refine (rpow_v vw (SlV ge 17 ce) WN 7237005577332262213973186563042994240829374041602535252466099000494570602494 X1 _ hw hee HX1.out).mono ?_
      rintro _ w17 ⟨vx1, rfl, hx1, b⟩
      replace hy := hy.below b
      replace hw := hw.below b
      replace hee := hee.below b
      replace KR := KR.below' b
      replace hB := hB.trans (b.mono hB.size)
      clear b
      clear hee
      go_wp2_with fail
      refine (rmul_v vx1 vx1 X1 X1 (fm X1 X1) _ hx1 hx1 rfl).mono ?_
      rintro _ w18 ⟨vxx, rfl, hxx, b⟩
      replace hy := hy.below b
      replace hw := hw.below b
      replace hx1 := hx1.below b
      replace KR := KR.below' b
      replace hB := hB.trans (b.mono hB.size)
      clear b
      go_wp2_with fail
      refine (same_w vxx vw (fm X1 X1) WN true _ hxx hw HC1.out).mono ?_
      rintro _ w19 ⟨rfl, b⟩
      replace hy := hy.below b
      replace hw := hw.below b
      replace hx1 := hx1.below b
      replace hxx := hxx.below b
      replace KR := KR.below' b
      replace hB := hB.trans (b.mono hB.size)
      clear b
      clear hxx
      clear hw
      have h8 := H8.out
      go_wp2_with fail
      refine (num_v 0 (by decide) _).mono ?_
      rintro _ w20 ⟨v0, rfl, h0, b⟩
      replace hy := hy.below b
      replace hx1 := hx1.below b
      replace KR := KR.below' b
      replace hB := hB.trans (b.mono hB.size)
      clear b
      go_wp2_with fail
      refine (same_w vx1 v0 X1 0 true _ hx1 h0 HZ.out).mono ?_
      rintro _ w21 ⟨rfl, b⟩
      replace hy := hy.below b
      replace hx1 := hx1.below b
      replace h0 := h0.below b
      replace KR := KR.below' b
      replace hB := hB.trans (b.mono hB.size)
      clear b
      clear h0
      clear hy hx1
      go_upto_region 30 with fail
      go_wp2_with (refine wpList_store_row rfl 42 _ _ rfl (w.heap.size + 1) zR rfl rfl 42 _ KR info_zR rfl zR_one ?_)
      exact bodyPost_ret (results_cell_tmp rfl _ _ _ 42 _ (0, 0) _ _ rfl (KR.row _) Tryd.underlying42 rfl info_zR rfl) rfl ⟨rfl, below_setRow hB (by omega) _⟩
end Go.Proofs.YtjaomgildhiddaaDoor
/- The reference's Read, a case (printed by genqe.py). -/
namespace Go.Proofs.YtjaomgildhiddaaDoor
open Go.RowKit
open Ed
set_option maxHeartbeats 8000000 in
set_option maxRecDepth 100000 in
theorem rread_1T2 (N M b bv o : Nat) (w : World) (hM : M < p256) (hb : byteAt N 31 = b) (ho : ((b : Nat) : Int) / 128 = (o : Int)) (hv : bits .and .u8 (b : Int) 127 = (bv : Int)) (hl : (keyOf N).set 31 (bv : Int) = keyOf M) (hlt : decide (M < pp) = true) (WN X1 : Nat) (hw : WN = wNum M) (hsq : rSquare WN = true) (hx1 : X1 = mpow WN 7237005577332262213973186563042994240829374041602535252466099000494570602494) (hc1 : decide (fm X1 X1 = WN) = true) (lX1 : X1 < pp) (hz : decide (X1 = 0) = true) (h8 : ¬ (o : Int) = 1) (q16 : Nat) (hq : q16 = X1 % 65536) (h4 : bits .and .u32 (q16 : Int) 1 = (o : Int)) (h5 : IntKind.u8.wrap (o : Int) = (o : Int)) (h7 : 0 ≤ (o : Int)) (P : Pt dd) (hend : ∀ (W : World) (a b c : Value), LongIs W a X1 → LongIs W b M → LongIs W c 1 → RIs W ⟨a, b, c⟩ P) :
    Calls Tryd.prog 16 #[Key (keyOf N)] w fun e w' => ∃ r : R3, e = .returned (.tuple #[RW r, .bool true]) ∧ RIs w' r P ∧ Below w.heap.size w w' := by
  have HB := Lib.hid hb
  have HO := Lib.hid ho
  have HV := Lib.hid hv
  have HL := Lib.hid hl
  have HLT := Lib.hid hlt
  clear hb ho hv hl hlt
  have HW := Lib.hid hw
  clear hw
  have HSQ := Lib.hid hsq
  clear hsq
  have HX1 := Lib.hid hx1
  clear hx1
  have HC1 := Lib.hid hc1
  clear hc1
  have HZ := Lib.hid hz
  clear hz
  have H8 := Lib.hid h8
  clear h8
  have HQ := Lib.hid hq
  clear hq
  have H4 := Lib.hid h4
  clear h4
  have H5 := Lib.hid h5
  clear h5
  have H7 := Lib.hid h7
  clear h7
  have HEND := Lib.hid hend
  clear hend
  unfold Key
  go_enter Tryd.func16, Tryd.ntmps16
  go_upto_region 1 with fail
  generalize hW : World.alloc (World.alloc w _) _ = W
  have hB : Below w.heap.size w W := hW ▸ ((Below.refl w.heap.size w).alloc (Nat.le_refl _) _).alloc (by simp) _
  have K0 : Blk W (w.heap.size) 23 (Iv .u8 (keyOf N)) := hW ▸ (Blk.new' (by simp) _ _).alloc _
  have KR : Blk W (w.heap.size + 1) 42 zR := hW ▸ (Blk.new' (by simp) _ _)
  clear hW
  have c0 := key_cellj K0 31 (by decide)
  rw [HB.out] at c0
  have f0 := K0.frozen 31
  have hsh := HO.out
  have hand := HV.out
  go_upto_region 3 with fail
  replace K0 := K0.set 31 (.int .u8 (bv : Int))
  rw [Iv_set, HL.out] at K0
  replace KR : Blk _ _ _ _ := KR.far (p := ⟨w.heap.size, 31, none⟩) (by show w.heap.size + 1 ≠ w.heap.size; omega) (.int .u8 (bv : Int))
  replace hB := hB.setCell (p := ⟨w.heap.size, 31, none⟩) (Nat.le_refl _) (.int .u8 (bv : Int))
  clear c0 f0 hsh hand
  generalize World.setCell _ _ _ = V at *
  go_wp2_with fail
  refine (rof_any w.heap.size 23 _ _ (keyOf_bytes M) _ K0).mono ?_
  rintro _ w1 ⟨gy, cy, rfl, Sy, _, b⟩
  have hy : LongIs w1 (SlV gy 16 cy) M := ⟨gy, 16, cy, _, rfl, Sy, by rw [d_num, leTo_byteAt32 hM]; exact Nat.mod_eq_of_lt (by rw [← pow_16]; exact hM), by decide⟩
  generalize SlV gy 16 cy = vy at *
  clear Sy K0
  replace KR := KR.below' b
  replace hB := hB.trans (b.mono hB.size)
  clear b
  go_wp2_with fail
  refine (p_w _).mono ?_
  rintro _ w2 ⟨vp, rfl, hp, b⟩
  replace hy := hy.below b
  replace KR := KR.below' b
  replace hB := hB.trans (b.mono hB.size)
  clear b
  go_wp2_with fail
  refine (less_w vy vp M pp true _ hy hp HLT.out).mono ?_
  rintro _ w3 ⟨rfl, b⟩
  replace hy := hy.below b
  replace hp := hp.below b
  replace KR := KR.below' b
  replace hB := hB.trans (b.mono hB.size)
  clear b
  clear hp
  go_wp2_with fail
  refine (rmul_v vy vy M M (fm M M) _ hy hy rfl).mono ?_
  rintro _ w4 ⟨vyy, rfl, hyy, b⟩
  replace hy := hy.below b
  replace KR := KR.below' b
  replace hB := hB.trans (b.mono hB.size)
  clear b
  go_wp2_with fail
  refine (num_v 1 (by decide) _).mono ?_
  rintro _ w5 ⟨v1, rfl, h1, b⟩
  replace hy := hy.below b
  replace hyy := hyy.below b
  replace KR := KR.below' b
  replace hB := hB.trans (b.mono hB.size)
  clear b
  go_wp2_with fail
  refine (rsub_v vyy v1 (fm M M) 1 (fs (fm M M) 1) _ hyy h1 one_lt rfl).mono ?_
  rintro _ w6 ⟨vs, rfl, hs, b⟩
  replace hy := hy.below b
  replace hyy := hyy.below b
  replace h1 := h1.below b
  replace KR := KR.below' b
  replace hB := hB.trans (b.mono hB.size)
  clear b
  clear h1
  go_wp2_with fail
  refine (rd_v _).mono ?_
  rintro _ w7 ⟨vd, rfl, hd, b⟩
  replace hy := hy.below b
  replace hyy := hyy.below b
  replace hs := hs.below b
  replace KR := KR.below' b
  replace hB := hB.trans (b.mono hB.size)
  clear b
  go_wp2_with fail
  refine (rmul_v vd vyy dN (fm M M) (fm dN (fm M M)) _ hd hyy rfl).mono ?_
  rintro _ w8 ⟨vm, rfl, hm, b⟩
  replace hy := hy.below b
  replace hyy := hyy.below b
  replace hs := hs.below b
  replace hd := hd.below b
  replace KR := KR.below' b
  replace hB := hB.trans (b.mono hB.size)
  clear b
  clear hd hyy
  go_wp2_with fail
  refine (num_v 1 (by decide) _).mono ?_
  rintro _ w9 ⟨v1, rfl, h1, b⟩
  replace hy := hy.below b
  replace hs := hs.below b
  replace hm := hm.below b
  replace KR := KR.below' b
  replace hB := hB.trans (b.mono hB.size)
  clear b
  go_wp2_with fail
  refine (radd_v vm v1 (fm dN (fm M M)) 1 (fa (fm dN (fm M M)) 1) _ hm h1 rfl).mono ?_
  rintro _ w10 ⟨va, rfl, ha, b⟩
  replace hy := hy.below b
  replace hs := hs.below b
  replace hm := hm.below b
  replace h1 := h1.below b
  replace KR := KR.below' b
  replace hB := hB.trans (b.mono hB.size)
  clear b
  clear hm h1
  go_wp2_with fail
  refine (rover_v va (fa (fm dN (fm M M)) 1) (pinv (fa (fm dN (fm M M)) 1)) _ ha rfl).mono ?_
  rintro _ w11 ⟨vi, rfl, hi, b⟩
  replace hy := hy.below b
  replace hs := hs.below b
  replace ha := ha.below b
  replace KR := KR.below' b
  replace hB := hB.trans (b.mono hB.size)
  clear b
  clear ha
  go_wp2_with fail
  refine (rmul_v vs vi (fs (fm M M) 1) (pinv (fa (fm dN (fm M M)) 1)) WN _ hs hi HW.out).mono ?_
  rintro _ w12 ⟨vw, rfl, hw, b⟩
  replace hy := hy.below b
  replace hs := hs.below b
  replace hi := hi.below b
  replace KR := KR.below' b
  replace hB := hB.trans (b.mono hB.size)
  clear b
  clear hs hi
  go_wp2_with fail
  refine (rsquare_v vw WN true _ hw HSQ.out).mono ?_
  rintro _ w13 ⟨rfl, b⟩
  replace hy := hy.below b
  replace hw := hw.below b
  replace KR := KR.below' b
  replace hB := hB.trans (b.mono hB.size)
  clear b
  have b0 := Below.refl w13.heap.size w13
  go_wp2_with fail
  refine (p_any _).mono ?_
  rintro _ w14 ⟨gp, cp, rfl, SP, _, b⟩
  replace b0 := b0.trans (b.mono b0.size)
  clear b
  unfold SlV
  go_wp2_with fail
  refine (num_any 3 _ (by decide)).mono ?_
  rintro _ w15 ⟨g2, c2, rfl, S2, _, b⟩
  replace SP := SP.below b
  replace b0 := b0.trans (b.mono b0.size)
  clear b
  unfold SlV
  go_wp2_with fail
  refine (sum_blk gp 16 cp g2 2 c2 _ _ _ SP S2 (by decide) (by decide)).mono ?_
  rintro _ w16 ⟨ge, ce, rfl, HE, hge, b⟩
  replace hge := Nat.le_trans b0.size hge
  replace b0 := b0.trans (b.mono b0.size)
  clear b SP S2
  have e17 : maxN 16 2 + 1 = 17 := rfl
  rw [e17] at HE
  obtain ⟨f, hf, f1, f2, f3⟩ : ∃ f, f = sumF 17 pF (numF 3) ∧ (∀ i, f i < 65536) ∧ (∀ i, 17 ≤ i → f i = 0) ∧ lv f 17 = pp + 3 := ⟨_, rfl, sumF_lt, sumF_high, sum_p3⟩
  rw [← hf] at HE
  clear hf
  unfold SlV
  go_wp2_with fail
  go_loopw [9] (fun i wr => ∃ m : Nat, m ≤ 3 ∧ i = .int .i64 m ∧ Blk wr ge 30 (Iv .u32 ((List.range 17).map fun i => ((halves m f i : Nat) : Int))) ∧ Below w13.heap.size w13 wr) (fun i _ => 3 - (intOf i).toNat)
  case atStart => exact ⟨0, by omega, rfl, HE, b0⟩
  case round =>
    obtain ⟨m, hm, rfl, HE2, b2⟩ := hrel
    clear HE b0
    by_cases hmlt : m < 3
    · have hh1 := halves_lt f f1 m
      have hh2 := halves_high f 17 f2 m
      have hnext : halves (m + 1) f = halfF (halves m f) := rfl
      generalize halves m f = h at *
      have HX := Lib.hid hnext
      clear hnext
      have im1 : (m : Int) < 3 := by omega
      go_wp2_with fail
      go_loopw [10] (fun i wr => ∃ k : Nat, k ≤ 17 ∧ i = .int .i64 k ∧ Blk wr ge 30 (Iv .u32 ((List.range 17).map fun i => ((mixF h k i : Nat) : Int))) ∧ Below w13.heap.size w13 wr) (fun i _ => 17 - (intOf i).toNat)
      case atStart => exact ⟨0, by omega, rfl, by rw [mixF_zero]; exact HE2, b2⟩
      case round =>
        obtain ⟨k, hk, rfl, HE3, b3⟩ := hrel
        clear HE2 b2
        by_cases hlt : k < 17
        · have i1 : (0 : Int) ≤ (k : Int) := by omega
          have i2 : (k : Int) < 17 := by omega
          go_upto_region 17 with fail
          have G := HE3.drew
          have b4 := below_drew b3
          clear HE3 b3
          refine wp_region_Z (S := fun w' => w' = World.drew wr) 15 (by kernel_rfl) ?_
          generalize World.drew wr = V at G b4 ⊢
          have SG : Sl V ge 17 (mixF h k) := Sl.of_blk G (mixF_lt h hh1 k) (mixF_high h 17 hh2 k)
          have c1 : V.cell? ⟨ge, k, none⟩ = some (.int .u32 ((h k : Nat) : Int)) := by
            rw [SG.cell k hlt, mixF_at]
          have f9 := G.frozen k
          have PA : ∀ W, Sl W ge 17 (mixF h k) → Calls Tryd.prog 30 #[.slice (some ⟨ge, 0, none⟩) 17 ce, .int .i64 ((k : Int) + 1)] W fun e w' => e = .returned (.int .u32 ((h (k + 1) : Nat) : Int)) ∧ W = w' := fun W hS => by
            have := part_any ge 17 ce (mixF h k) (k + 1) W hS
            rw [mixF_next] at this
            exact this
          have l1 := hh1 k
          have l2 := hh1 (k + 1)
          have hp := half_part (h k) (h (k + 1)) l1 l2
          have i3 : IntKind.i64.wrap ((k : Int) + 1) = (k : Int) + 1 := by rw [IntKind.wrap_i64]; omega
          generalize hx : h k = x at c1 hp l1
          generalize hyy : h (k + 1) = y at PA hp l2
          have PAh := Lib.hid PA
          have HP := Lib.hid hp
          have HXX := Lib.hid hx
          have HYY := Lib.hid hyy
          clear PA hp hx hyy
          have hS : (fun w' => w' = V) V := rfl
          refine wpAnyZ_takeL 0 (v := ?_) rfl (by kernel_rfl) (by kernel_rfl) (by kernel_rfl) (by kernel_rfl) (by kernel_rfl) (fun _ _ _ h => h) (Or.inl ⟨by rfl, ?_⟩) hS ?_
          rotate_left
          · intro w' hw'
            obtain rfl : w' = V := hw'
            go_simp
            try (with_reducible rfl)
          simp only [Act.put, List.setIfInBounds_toArray, List.set_cons_zero, List.set_cons_succ]
          refine wpAnyZ_takeL 1 (v := ?_) rfl (by kernel_rfl) (by kernel_rfl) (by kernel_rfl) (by kernel_rfl) (by kernel_rfl) (fun _ _ _ h => h) (Or.inl ⟨by rfl, ?_⟩) hS ?_
          rotate_left
          · intro w' hw'
            obtain rfl : w' = V := hw'
            go_simp
            try (with_reducible rfl)
          simp only [Act.put, List.setIfInBounds_toArray, List.set_cons_zero, List.set_cons_succ]
          refine wpAnyZ_takeL 2 (v := ?_) rfl (by kernel_rfl) (by kernel_rfl) (by kernel_rfl) (by kernel_rfl) (by kernel_rfl) (fun _ _ _ h => h) (Or.inl ⟨by rfl, ?_⟩) hS ?_
          rotate_left
          · intro w' hw'
            obtain rfl : w' = V := hw'
            go_simp
            try (with_reducible rfl)
          simp only [Act.put, List.setIfInBounds_toArray, List.set_cons_zero, List.set_cons_succ]
          refine wpAnyZ_takeL 3 (v := ?_) rfl (by kernel_rfl) (by kernel_rfl) (by kernel_rfl) (by kernel_rfl) (by kernel_rfl) (fun _ _ _ h => h) (Or.inl ⟨by rfl, ?_⟩) hS ?_
          rotate_left
          · intro w' hw'
            obtain rfl : w' = V := hw'
            go_simp
            try (with_reducible rfl)
          simp only [Act.put, List.setIfInBounds_toArray, List.set_cons_zero, List.set_cons_succ]
          refine wpAnyZ_takeL 4 (v := ?_) rfl (by kernel_rfl) (by kernel_rfl) (by kernel_rfl) (by kernel_rfl) (by kernel_rfl) (fun _ _ _ h => h) (Or.inl ⟨by rfl, ?_⟩) hS ?_
          rotate_left
          · intro w' hw'
            obtain rfl : w' = V := hw'
            go_simp
            try (with_reducible rfl)
          simp only [Act.put, List.setIfInBounds_toArray, List.set_cons_zero, List.set_cons_succ]
          refine wpAnyZ_takeL 5 (v := ?_) rfl (by kernel_rfl) (by kernel_rfl) (by kernel_rfl) (by kernel_rfl) (by kernel_rfl) (fun _ _ _ h => h) (Or.inl ⟨by rfl, ?_⟩) hS ?_
          rotate_left
          · intro w' hw'
            obtain rfl : w' = V := hw'
            go_simp
            try (with_reducible rfl)
          simp only [Act.put, List.setIfInBounds_toArray, List.set_cons_zero, List.set_cons_succ]
          refine wpAnyZ_takeL 6 (v := ?_) rfl (by kernel_rfl) (by kernel_rfl) (by kernel_rfl) (by kernel_rfl) (by kernel_rfl) (fun _ _ _ h => h) (Or.inl ⟨by rfl, ?_⟩) hS ?_
          rotate_left
          · intro w' hw'
            obtain rfl : w' = V := hw'
            go_simp
            try (with_reducible rfl)
          simp only [Act.put, List.setIfInBounds_toArray, List.set_cons_zero, List.set_cons_succ]
          refine wpAnyZ_takeL 7 (v := ?_) rfl (by kernel_rfl) (by kernel_rfl) (by kernel_rfl) (by kernel_rfl) (by kernel_rfl) (fun _ _ _ h => h) (Or.inl ⟨by rfl, ?_⟩) hS ?_
          rotate_left
          · intro w' hw'
            obtain rfl : w' = V := hw'
            go_simp
            try (with_reducible rfl)
          simp only [Act.put, List.setIfInBounds_toArray, List.set_cons_zero, List.set_cons_succ]
          refine wpAnyZ_takeL 8 (v := ?_) rfl (by kernel_rfl) (by kernel_rfl) (by kernel_rfl) (by kernel_rfl) (by kernel_rfl) (fun _ _ _ h => h) (Or.inl ⟨by rfl, ?_⟩) hS ?_
          rotate_left
          · intro w' hw'
            obtain rfl : w' = V := hw'
            go_simp
            try (with_reducible rfl)
          simp only [Act.put, List.setIfInBounds_toArray, List.set_cons_zero, List.set_cons_succ]
          refine wpAnyZ_takeL 9 (v := ?_) rfl (by kernel_rfl) (by kernel_rfl) (by kernel_rfl) (by kernel_rfl) (by kernel_rfl) (fun _ _ _ h => h) (Or.inl ⟨by rfl, ?_⟩) hS ?_
          rotate_left
          · intro w' hw'
            obtain rfl : w' = V := hw'
            go_simp
            try (with_reducible rfl)
          simp only [Act.put, List.setIfInBounds_toArray, List.set_cons_zero, List.set_cons_succ]
          refine wpAnyZ_one (i := 10) (by kernel_rfl) ?_
          unfold wpOp
          go_simp
          left
          refine (PAh.out _ SG).mono ?_
          rintro e v4 ⟨rfl, rfl⟩
          refine ⟨hS, ?_⟩
          refine wpAnyZ_takeL 11 (v := ?_) rfl (by kernel_rfl) (by kernel_rfl) (by kernel_rfl) (by kernel_rfl) (by kernel_rfl) (fun _ _ _ h => h) (Or.inl ⟨by rfl, ?_⟩) hS ?_
          rotate_left
          · intro w' hw'
            obtain rfl : w' = V := hw'
            go_simp
            try (with_reducible rfl)
          simp only [Act.put, List.setIfInBounds_toArray, List.set_cons_zero, List.set_cons_succ]
          refine wpAnyZ_takeL 12 (v := ?_) rfl (by kernel_rfl) (by kernel_rfl) (by kernel_rfl) (by kernel_rfl) (by kernel_rfl) (fun _ _ _ h => h) (Or.inl ⟨by rfl, ?_⟩) hS ?_
          rotate_left
          · intro w' hw'
            obtain rfl : w' = V := hw'
            go_simp
            try (with_reducible rfl)
          simp only [Act.put, List.setIfInBounds_toArray, List.set_cons_zero, List.set_cons_succ]
          refine wpAnyZ_takeL 13 (v := ?_) rfl (by kernel_rfl) (by kernel_rfl) (by kernel_rfl) (by kernel_rfl) (by kernel_rfl) (fun _ _ _ h => h) (Or.inl ⟨by rfl, ?_⟩) hS ?_
          rotate_left
          · intro w' hw'
            obtain rfl : w' = V := hw'
            go_simp
            try (with_reducible rfl)
          simp only [Act.put, List.setIfInBounds_toArray, List.set_cons_zero, List.set_cons_succ]
          refine wpAnyZ_takeL 14 (v := ?_) rfl (by kernel_rfl) (by kernel_rfl) (by kernel_rfl) (by kernel_rfl) (by kernel_rfl) (fun _ _ _ h => h) (Or.inl ⟨by rfl, ?_⟩) hS ?_
          rotate_left
          · intro w' hw'
            obtain rfl : w' = V := hw'
            go_simp
            try (with_reducible rfl)
          simp only [Act.put, List.setIfInBounds_toArray, List.set_cons_zero, List.set_cons_succ]
          refine wpAnyZ_one (i := 15) (by kernel_rfl) ?_
          unfold wpOp
          go_simp
          left
          refine wpAnyZ_done (by kernel_rfl) ?_ _
          rw [HP.out]
          have G2 := G.set k (.int .u32 ((halfF h k : Nat) : Int))
          rw [Iv_set, mixF_set h k 17] at G2
          have ev : halfF h k = x / 2 + y % 2 * 32768 := by rw [← HXX.out, ← HYY.out]; rfl
          rw [ev] at G2
          have b5 := b4.setCell (p := ⟨ge, k, none⟩) hge (.int .u32 ((x / 2 + y % 2 * 32768 : Nat) : Int))
          clear c1 PAh HP HXX HYY f9 ev l1 l2 hS SG G b4
          go_wp2
          exact ⟨⟨k + 1, by omega, by go_num, G2, b5⟩, by simp [intOf]; omega⟩
        · obtain rfl : k = 17 := by omega
          rw [mixF_full h 17 hh2] at HE3
          go_wp2
          exact ⟨⟨m + 1, by omega, by go_num, by rw [HX.out]; exact HE3, b3⟩, by simp [intOf]; omega⟩
    · obtain rfl : m = 3 := by omega
      have hv := halves_val f f1 17 f2 3
      rw [f3] at hv
      have hh1 := halves_lt f f1 3
      have hh2 := halves_high f 17 f2 3
      generalize halves 3 f = h at *
      have SE := Sl.of_blk HE2 hh1 hh2
      have hE : lv h 17 = 7237005577332262213973186563042994240829374041602535252466099000494570602494 := by
        rw [hv, pp_eq]
      have hee : LongIs _ (SlV ge 17 ce) (lv h 17) := ⟨ge, 17, ce, h, rfl, SE, rfl, by decide⟩
      rw [hE] at hee
      clear hv hE SE HE2 hh1 hh2 f1 f2 f3
      have b := b2
      clear b2
      replace hy := hy.below b
      replace hw := hw.below b
      replace KR := KR.below' b
      replace hB := hB.trans (b.mono hB.size)
      clear b
      go_wp2_with fail
      refine (rpow_v vw (SlV ge 17 ce) WN 7237005577332262213973186563042994240829374041602535252466099000494570602494 X1 _ hw hee HX1.out).mono ?_
      rintro _ w17 ⟨vx1, rfl, hx1, b⟩
      replace hy := hy.below b
      replace hw := hw.below b
      replace hee := hee.below b
      replace KR := KR.below' b
      replace hB := hB.trans (b.mono hB.size)
      clear b
      clear hee
      go_wp2_with fail
      refine (rmul_v vx1 vx1 X1 X1 (fm X1 X1) _ hx1 hx1 rfl).mono ?_
      rintro _ w18 ⟨vxx, rfl, hxx, b⟩
      replace hy := hy.below b
      replace hw := hw.below b
      replace hx1 := hx1.below b
      replace KR := KR.below' b
      replace hB := hB.trans (b.mono hB.size)
      clear b
      go_wp2_with fail
      refine (same_w vxx vw (fm X1 X1) WN true _ hxx hw HC1.out).mono ?_
      rintro _ w19 ⟨rfl, b⟩
      replace hy := hy.below b
      replace hw := hw.below b
      replace hx1 := hx1.below b
      replace hxx := hxx.below b
      replace KR := KR.below' b
      replace hB := hB.trans (b.mono hB.size)
      clear b
      clear hxx
      clear hw
      have h8 := H8.out
      go_wp2_with fail
      refine (num_v 0 (by decide) _).mono ?_
      rintro _ w20 ⟨v0, rfl, h0, b⟩
      replace hy := hy.below b
      replace hx1 := hx1.below b
      replace KR := KR.below' b
      replace hB := hB.trans (b.mono hB.size)
      clear b
      go_wp2_with fail
      refine (same_w vx1 v0 X1 0 true _ hx1 h0 HZ.out).mono ?_
      rintro _ w21 ⟨rfl, b⟩
      replace hy := hy.below b
      replace hx1 := hx1.below b
      replace h0 := h0.below b
      replace KR := KR.below' b
      replace hB := hB.trans (b.mono hB.size)
      clear b
      clear h0
      have h4 := H4.out
      have h5 := H5.out
      have h7 := H7.out
      go_wp2_with fail
      refine (rpart0_v vx1 X1 q16 _ hx1 HQ.out).mono ?_
      rintro _ w22 ⟨rfl, b⟩
      replace hy := hy.below b
      replace hx1 := hx1.below b
      replace KR := KR.below' b
      replace hB := hB.trans (b.mono hB.size)
      clear b
      go_wp2_with fail
      refine (num_v 1 (by decide) _).mono ?_
      rintro _ w23 ⟨v1, rfl, h1, b⟩
      replace hy := hy.below b
      replace hx1 := hx1.below b
      replace KR := KR.below' b
      replace hB := hB.trans (b.mono hB.size)
      clear b
      have H3 := HEND.out _ vx1 vy v1 hx1 hy h1
      have one3 := Rc_one3 hx1.sl hy.sl h1.sl
      obtain ⟨gx, nx, cx, ex⟩ := hx1.sl
      obtain ⟨gy2, ny, cy2, ey⟩ := hy.sl
      obtain ⟨gz, nz, cz, ez⟩ := h1.sl
      clear h1 hx1 hy h4 h5 h7 
      subst ex ey ez
      have H9 := H3.away KR zR_not32 (Rc ⟨SlV gx nx cx, SlV gy2 ny cy2, SlV gz nz cz⟩)
      clear H3
      unfold SlV
      go_wp2_with (refine wpList_store_row rfl 42 _ _ rfl (w.heap.size + 1) (Rc ⟨SlV gx nx cx, SlV gy2 ny cy2, SlV gz nz cz⟩) rfl rfl 42 _ KR (info_Rc _) rfl one3 ?_)
      exact bodyPost_ret (results_cell_tmp rfl _ _ _ 42 _ (0, 0) _ _ rfl (KR.row _) Tryd.underlying42 rfl (info_Rc _) rfl) rfl ⟨_, rfl, H9, below_setRow hB (by omega) _⟩
end Go.Proofs.YtjaomgildhiddaaDoor
/- The reference's Read, a case (printed by genqe.py). -/
namespace Go.Proofs.YtjaomgildhiddaaDoor
open Go.RowKit
open Ed
set_option maxHeartbeats 8000000 in
set_option maxRecDepth 100000 in
theorem rread_1T3 (N M b bv o : Nat) (w : World) (hM : M < p256) (hb : byteAt N 31 = b) (ho : ((b : Nat) : Int) / 128 = (o : Int)) (hv : bits .and .u8 (b : Int) 127 = (bv : Int)) (hl : (keyOf N).set 31 (bv : Int) = keyOf M) (hlt : decide (M < pp) = true) (WN X1 : Nat) (hw : WN = wNum M) (hsq : rSquare WN = true) (hx1 : X1 = mpow WN 7237005577332262213973186563042994240829374041602535252466099000494570602494) (hc1 : decide (fm X1 X1 = WN) = true) (lX1 : X1 < pp) (hz : decide (X1 = 0) = false) (q16 : Nat) (hq : q16 = X1 % 65536) (h4 : bits .and .u32 (q16 : Int) 1 = (o : Int)) (h5 : IntKind.u8.wrap (o : Int) = (o : Int)) (h7 : 0 ≤ (o : Int)) (P : Pt dd) (hend : ∀ (W : World) (a b c : Value), LongIs W a X1 → LongIs W b M → LongIs W c 1 → RIs W ⟨a, b, c⟩ P) :
    Calls Tryd.prog 16 #[Key (keyOf N)] w fun e w' => ∃ r : R3, e = .returned (.tuple #[RW r, .bool true]) ∧ RIs w' r P ∧ Below w.heap.size w w' := by
  have HB := Lib.hid hb
  have HO := Lib.hid ho
  have HV := Lib.hid hv
  have HL := Lib.hid hl
  have HLT := Lib.hid hlt
  clear hb ho hv hl hlt
  have HW := Lib.hid hw
  clear hw
  have HSQ := Lib.hid hsq
  clear hsq
  have HX1 := Lib.hid hx1
  clear hx1
  have HC1 := Lib.hid hc1
  clear hc1
  have HZ := Lib.hid hz
  clear hz
  have HQ := Lib.hid hq
  clear hq
  have H4 := Lib.hid h4
  clear h4
  have H5 := Lib.hid h5
  clear h5
  have H7 := Lib.hid h7
  clear h7
  have HEND := Lib.hid hend
  clear hend
  unfold Key
  go_enter Tryd.func16, Tryd.ntmps16
  go_upto_region 1 with fail
  generalize hW : World.alloc (World.alloc w _) _ = W
  have hB : Below w.heap.size w W := hW ▸ ((Below.refl w.heap.size w).alloc (Nat.le_refl _) _).alloc (by simp) _
  have K0 : Blk W (w.heap.size) 23 (Iv .u8 (keyOf N)) := hW ▸ (Blk.new' (by simp) _ _).alloc _
  have KR : Blk W (w.heap.size + 1) 42 zR := hW ▸ (Blk.new' (by simp) _ _)
  clear hW
  have c0 := key_cellj K0 31 (by decide)
  rw [HB.out] at c0
  have f0 := K0.frozen 31
  have hsh := HO.out
  have hand := HV.out
  go_upto_region 3 with fail
  replace K0 := K0.set 31 (.int .u8 (bv : Int))
  rw [Iv_set, HL.out] at K0
  replace KR : Blk _ _ _ _ := KR.far (p := ⟨w.heap.size, 31, none⟩) (by show w.heap.size + 1 ≠ w.heap.size; omega) (.int .u8 (bv : Int))
  replace hB := hB.setCell (p := ⟨w.heap.size, 31, none⟩) (Nat.le_refl _) (.int .u8 (bv : Int))
  clear c0 f0 hsh hand
  generalize World.setCell _ _ _ = V at *
  go_wp2_with fail
  refine (rof_any w.heap.size 23 _ _ (keyOf_bytes M) _ K0).mono ?_
  rintro _ w1 ⟨gy, cy, rfl, Sy, _, b⟩
  have hy : LongIs w1 (SlV gy 16 cy) M := ⟨gy, 16, cy, _, rfl, Sy, by rw [d_num, leTo_byteAt32 hM]; exact Nat.mod_eq_of_lt (by rw [← pow_16]; exact hM), by decide⟩
  generalize SlV gy 16 cy = vy at *
  clear Sy K0
  replace KR := KR.below' b
  replace hB := hB.trans (b.mono hB.size)
  clear b
  go_wp2_with fail
  refine (p_w _).mono ?_
  rintro _ w2 ⟨vp, rfl, hp, b⟩
  replace hy := hy.below b
  replace KR := KR.below' b
  replace hB := hB.trans (b.mono hB.size)
  clear b
  go_wp2_with fail
  refine (less_w vy vp M pp true _ hy hp HLT.out).mono ?_
  rintro _ w3 ⟨rfl, b⟩
  replace hy := hy.below b
  replace hp := hp.below b
  replace KR := KR.below' b
  replace hB := hB.trans (b.mono hB.size)
  clear b
  clear hp
  go_wp2_with fail
  refine (rmul_v vy vy M M (fm M M) _ hy hy rfl).mono ?_
  rintro _ w4 ⟨vyy, rfl, hyy, b⟩
  replace hy := hy.below b
  replace KR := KR.below' b
  replace hB := hB.trans (b.mono hB.size)
  clear b
  go_wp2_with fail
  refine (num_v 1 (by decide) _).mono ?_
  rintro _ w5 ⟨v1, rfl, h1, b⟩
  replace hy := hy.below b
  replace hyy := hyy.below b
  replace KR := KR.below' b
  replace hB := hB.trans (b.mono hB.size)
  clear b
  go_wp2_with fail
  refine (rsub_v vyy v1 (fm M M) 1 (fs (fm M M) 1) _ hyy h1 one_lt rfl).mono ?_
  rintro _ w6 ⟨vs, rfl, hs, b⟩
  replace hy := hy.below b
  replace hyy := hyy.below b
  replace h1 := h1.below b
  replace KR := KR.below' b
  replace hB := hB.trans (b.mono hB.size)
  clear b
  clear h1
  go_wp2_with fail
  refine (rd_v _).mono ?_
  rintro _ w7 ⟨vd, rfl, hd, b⟩
  replace hy := hy.below b
  replace hyy := hyy.below b
  replace hs := hs.below b
  replace KR := KR.below' b
  replace hB := hB.trans (b.mono hB.size)
  clear b
  go_wp2_with fail
  refine (rmul_v vd vyy dN (fm M M) (fm dN (fm M M)) _ hd hyy rfl).mono ?_
  rintro _ w8 ⟨vm, rfl, hm, b⟩
  replace hy := hy.below b
  replace hyy := hyy.below b
  replace hs := hs.below b
  replace hd := hd.below b
  replace KR := KR.below' b
  replace hB := hB.trans (b.mono hB.size)
  clear b
  clear hd hyy
  go_wp2_with fail
  refine (num_v 1 (by decide) _).mono ?_
  rintro _ w9 ⟨v1, rfl, h1, b⟩
  replace hy := hy.below b
  replace hs := hs.below b
  replace hm := hm.below b
  replace KR := KR.below' b
  replace hB := hB.trans (b.mono hB.size)
  clear b
  go_wp2_with fail
  refine (radd_v vm v1 (fm dN (fm M M)) 1 (fa (fm dN (fm M M)) 1) _ hm h1 rfl).mono ?_
  rintro _ w10 ⟨va, rfl, ha, b⟩
  replace hy := hy.below b
  replace hs := hs.below b
  replace hm := hm.below b
  replace h1 := h1.below b
  replace KR := KR.below' b
  replace hB := hB.trans (b.mono hB.size)
  clear b
  clear hm h1
  go_wp2_with fail
  refine (rover_v va (fa (fm dN (fm M M)) 1) (pinv (fa (fm dN (fm M M)) 1)) _ ha rfl).mono ?_
  rintro _ w11 ⟨vi, rfl, hi, b⟩
  replace hy := hy.below b
  replace hs := hs.below b
  replace ha := ha.below b
  replace KR := KR.below' b
  replace hB := hB.trans (b.mono hB.size)
  clear b
  clear ha
  go_wp2_with fail
  refine (rmul_v vs vi (fs (fm M M) 1) (pinv (fa (fm dN (fm M M)) 1)) WN _ hs hi HW.out).mono ?_
  rintro _ w12 ⟨vw, rfl, hw, b⟩
  replace hy := hy.below b
  replace hs := hs.below b
  replace hi := hi.below b
  replace KR := KR.below' b
  replace hB := hB.trans (b.mono hB.size)
  clear b
  clear hs hi
  go_wp2_with fail
  refine (rsquare_v vw WN true _ hw HSQ.out).mono ?_
  rintro _ w13 ⟨rfl, b⟩
  replace hy := hy.below b
  replace hw := hw.below b
  replace KR := KR.below' b
  replace hB := hB.trans (b.mono hB.size)
  clear b
  have b0 := Below.refl w13.heap.size w13
  go_wp2_with fail
  refine (p_any _).mono ?_
  rintro _ w14 ⟨gp, cp, rfl, SP, _, b⟩
  replace b0 := b0.trans (b.mono b0.size)
  clear b
  unfold SlV
  go_wp2_with fail
  refine (num_any 3 _ (by decide)).mono ?_
  rintro _ w15 ⟨g2, c2, rfl, S2, _, b⟩
  replace SP := SP.below b
  replace b0 := b0.trans (b.mono b0.size)
  clear b
  unfold SlV
  go_wp2_with fail
  refine (sum_blk gp 16 cp g2 2 c2 _ _ _ SP S2 (by decide) (by decide)).mono ?_
  rintro _ w16 ⟨ge, ce, rfl, HE, hge, b⟩
  replace hge := Nat.le_trans b0.size hge
  replace b0 := b0.trans (b.mono b0.size)
  clear b SP S2
  have e17 : maxN 16 2 + 1 = 17 := rfl
  rw [e17] at HE
  obtain ⟨f, hf, f1, f2, f3⟩ : ∃ f, f = sumF 17 pF (numF 3) ∧ (∀ i, f i < 65536) ∧ (∀ i, 17 ≤ i → f i = 0) ∧ lv f 17 = pp + 3 := ⟨_, rfl, sumF_lt, sumF_high, sum_p3⟩
  rw [← hf] at HE
  clear hf
  unfold SlV
  go_wp2_with fail
  go_loopw [9] (fun i wr => ∃ m : Nat, m ≤ 3 ∧ i = .int .i64 m ∧ Blk wr ge 30 (Iv .u32 ((List.range 17).map fun i => ((halves m f i : Nat) : Int))) ∧ Below w13.heap.size w13 wr) (fun i _ => 3 - (intOf i).toNat)
  case atStart => exact ⟨0, by omega, rfl, HE, b0⟩
  case round =>
    obtain ⟨m, hm, rfl, HE2, b2⟩ := hrel
    clear HE b0
    by_cases hmlt : m < 3
    · have hh1 := halves_lt f f1 m
      have hh2 := halves_high f 17 f2 m
      have hnext : halves (m + 1) f = halfF (halves m f) := rfl
      generalize halves m f = h at *
      have HX := Lib.hid hnext
      clear hnext
      have im1 : (m : Int) < 3 := by omega
      go_wp2_with fail
      go_loopw [10] (fun i wr => ∃ k : Nat, k ≤ 17 ∧ i = .int .i64 k ∧ Blk wr ge 30 (Iv .u32 ((List.range 17).map fun i => ((mixF h k i : Nat) : Int))) ∧ Below w13.heap.size w13 wr) (fun i _ => 17 - (intOf i).toNat)
      case atStart => exact ⟨0, by omega, rfl, by rw [mixF_zero]; exact HE2, b2⟩
      case round =>
        obtain ⟨k, hk, rfl, HE3, b3⟩ := hrel
        clear HE2 b2
        by_cases hlt : k < 17
        · have i1 : (0 : Int) ≤ (k : Int) := by omega
          have i2 : (k : Int) < 17 := by omega
          go_upto_region 17 with fail
          have G := HE3.drew
          have b4 := below_drew b3
          clear HE3 b3
          refine wp_region_Z (S := fun w' => w' = World.drew wr) 15 (by kernel_rfl) ?_
          generalize World.drew wr = V at G b4 ⊢
          have SG : Sl V ge 17 (mixF h k) := Sl.of_blk G (mixF_lt h hh1 k) (mixF_high h 17 hh2 k)
          have c1 : V.cell? ⟨ge, k, none⟩ = some (.int .u32 ((h k : Nat) : Int)) := by
            rw [SG.cell k hlt, mixF_at]
          have f9 := G.frozen k
          have PA : ∀ W, Sl W ge 17 (mixF h k) → Calls Tryd.prog 30 #[.slice (some ⟨ge, 0, none⟩) 17 ce, .int .i64 ((k : Int) + 1)] W fun e w' => e = .returned (.int .u32 ((h (k + 1) : Nat) : Int)) ∧ W = w' := fun W hS => by
            have := part_any ge 17 ce (mixF h k) (k + 1) W hS
            rw [mixF_next] at this
            exact this
          have l1 := hh1 k
          have l2 := hh1 (k + 1)
          have hp := half_part (h k) (h (k + 1)) l1 l2
          have i3 : IntKind.i64.wrap ((k : Int) + 1) = (k : Int) + 1 := by rw [IntKind.wrap_i64]; omega
          generalize hx : h k = x at c1 hp l1
          generalize hyy : h (k + 1) = y at PA hp l2
          have PAh := Lib.hid PA
          have HP := Lib.hid hp
          have HXX := Lib.hid hx
          have HYY := Lib.hid hyy
          clear PA hp hx hyy
          have hS : (fun w' => w' = V) V := rfl
          refine wpAnyZ_takeL 0 (v := ?_) rfl (by kernel_rfl) (by kernel_rfl) (by kernel_rfl) (by kernel_rfl) (by kernel_rfl) (fun _ _ _ h => h) (Or.inl ⟨by rfl, ?_⟩) hS ?_
          rotate_left
          · intro w' hw'
            obtain rfl : w' = V := hw'
            go_simp
            try (with_reducible rfl)
          simp only [Act.put, List.setIfInBounds_toArray, List.set_cons_zero, List.set_cons_succ]
          refine wpAnyZ_takeL 1 (v := ?_) rfl (by kernel_rfl) (by kernel_rfl) (by kernel_rfl) (by kernel_rfl) (by kernel_rfl) (fun _ _ _ h => h) (Or.inl ⟨by rfl, ?_⟩) hS ?_
          rotate_left
          · intro w' hw'
            obtain rfl : w' = V := hw'
            go_simp
            try (with_reducible rfl)
          simp only [Act.put, List.setIfInBounds_toArray, List.set_cons_zero, List.set_cons_succ]
          refine wpAnyZ_takeL 2 (v := ?_) rfl (by kernel_rfl) (by kernel_rfl) (by kernel_rfl) (by kernel_rfl) (by kernel_rfl) (fun _ _ _ h => h) (Or.inl ⟨by rfl, ?_⟩) hS ?_
          rotate_left
          · intro w' hw'
            obtain rfl : w' = V := hw'
            go_simp
            try (with_reducible rfl)
          simp only [Act.put, List.setIfInBounds_toArray, List.set_cons_zero, List.set_cons_succ]
          refine wpAnyZ_takeL 3 (v := ?_) rfl (by kernel_rfl) (by kernel_rfl) (by kernel_rfl) (by kernel_rfl) (by kernel_rfl) (fun _ _ _ h => h) (Or.inl ⟨by rfl, ?_⟩) hS ?_
          rotate_left
          · intro w' hw'
            obtain rfl : w' = V := hw'
            go_simp
            try (with_reducible rfl)
          simp only [Act.put, List.setIfInBounds_toArray, List.set_cons_zero, List.set_cons_succ]
          refine wpAnyZ_takeL 4 (v := ?_) rfl (by kernel_rfl) (by kernel_rfl) (by kernel_rfl) (by kernel_rfl) (by kernel_rfl) (fun _ _ _ h => h) (Or.inl ⟨by rfl, ?_⟩) hS ?_
          rotate_left
          · intro w' hw'
            obtain rfl : w' = V := hw'
            go_simp
            try (with_reducible rfl)
          simp only [Act.put, List.setIfInBounds_toArray, List.set_cons_zero, List.set_cons_succ]
          refine wpAnyZ_takeL 5 (v := ?_) rfl (by kernel_rfl) (by kernel_rfl) (by kernel_rfl) (by kernel_rfl) (by kernel_rfl) (fun _ _ _ h => h) (Or.inl ⟨by rfl, ?_⟩) hS ?_
          rotate_left
          · intro w' hw'
            obtain rfl : w' = V := hw'
            go_simp
            try (with_reducible rfl)
          simp only [Act.put, List.setIfInBounds_toArray, List.set_cons_zero, List.set_cons_succ]
          refine wpAnyZ_takeL 6 (v := ?_) rfl (by kernel_rfl) (by kernel_rfl) (by kernel_rfl) (by kernel_rfl) (by kernel_rfl) (fun _ _ _ h => h) (Or.inl ⟨by rfl, ?_⟩) hS ?_
          rotate_left
          · intro w' hw'
            obtain rfl : w' = V := hw'
            go_simp
            try (with_reducible rfl)
          simp only [Act.put, List.setIfInBounds_toArray, List.set_cons_zero, List.set_cons_succ]
          refine wpAnyZ_takeL 7 (v := ?_) rfl (by kernel_rfl) (by kernel_rfl) (by kernel_rfl) (by kernel_rfl) (by kernel_rfl) (fun _ _ _ h => h) (Or.inl ⟨by rfl, ?_⟩) hS ?_
          rotate_left
          · intro w' hw'
            obtain rfl : w' = V := hw'
            go_simp
            try (with_reducible rfl)
          simp only [Act.put, List.setIfInBounds_toArray, List.set_cons_zero, List.set_cons_succ]
          refine wpAnyZ_takeL 8 (v := ?_) rfl (by kernel_rfl) (by kernel_rfl) (by kernel_rfl) (by kernel_rfl) (by kernel_rfl) (fun _ _ _ h => h) (Or.inl ⟨by rfl, ?_⟩) hS ?_
          rotate_left
          · intro w' hw'
            obtain rfl : w' = V := hw'
            go_simp
            try (with_reducible rfl)
          simp only [Act.put, List.setIfInBounds_toArray, List.set_cons_zero, List.set_cons_succ]
          refine wpAnyZ_takeL 9 (v := ?_) rfl (by kernel_rfl) (by kernel_rfl) (by kernel_rfl) (by kernel_rfl) (by kernel_rfl) (fun _ _ _ h => h) (Or.inl ⟨by rfl, ?_⟩) hS ?_
          rotate_left
          · intro w' hw'
            obtain rfl : w' = V := hw'
            go_simp
            try (with_reducible rfl)
          simp only [Act.put, List.setIfInBounds_toArray, List.set_cons_zero, List.set_cons_succ]
          refine wpAnyZ_one (i := 10) (by kernel_rfl) ?_
          unfold wpOp
          go_simp
          left
          refine (PAh.out _ SG).mono ?_
          rintro e v4 ⟨rfl, rfl⟩
          refine ⟨hS, ?_⟩
          refine wpAnyZ_takeL 11 (v := ?_) rfl (by kernel_rfl) (by kernel_rfl) (by kernel_rfl) (by kernel_rfl) (by kernel_rfl) (fun _ _ _ h => h) (Or.inl ⟨by rfl, ?_⟩) hS ?_
          rotate_left
          · intro w' hw'
            obtain rfl : w' = V := hw'
            go_simp
            try (with_reducible rfl)
          simp only [Act.put, List.setIfInBounds_toArray, List.set_cons_zero, List.set_cons_succ]
          refine wpAnyZ_takeL 12 (v := ?_) rfl (by kernel_rfl) (by kernel_rfl) (by kernel_rfl) (by kernel_rfl) (by kernel_rfl) (fun _ _ _ h => h) (Or.inl ⟨by rfl, ?_⟩) hS ?_
          rotate_left
          · intro w' hw'
            obtain rfl : w' = V := hw'
            go_simp
            try (with_reducible rfl)
          simp only [Act.put, List.setIfInBounds_toArray, List.set_cons_zero, List.set_cons_succ]
          refine wpAnyZ_takeL 13 (v := ?_) rfl (by kernel_rfl) (by kernel_rfl) (by kernel_rfl) (by kernel_rfl) (by kernel_rfl) (fun _ _ _ h => h) (Or.inl ⟨by rfl, ?_⟩) hS ?_
          rotate_left
          · intro w' hw'
            obtain rfl : w' = V := hw'
            go_simp
            try (with_reducible rfl)
          simp only [Act.put, List.setIfInBounds_toArray, List.set_cons_zero, List.set_cons_succ]
          refine wpAnyZ_takeL 14 (v := ?_) rfl (by kernel_rfl) (by kernel_rfl) (by kernel_rfl) (by kernel_rfl) (by kernel_rfl) (fun _ _ _ h => h) (Or.inl ⟨by rfl, ?_⟩) hS ?_
          rotate_left
          · intro w' hw'
            obtain rfl : w' = V := hw'
            go_simp
            try (with_reducible rfl)
          simp only [Act.put, List.setIfInBounds_toArray, List.set_cons_zero, List.set_cons_succ]
          refine wpAnyZ_one (i := 15) (by kernel_rfl) ?_
          unfold wpOp
          go_simp
          left
          refine wpAnyZ_done (by kernel_rfl) ?_ _
          rw [HP.out]
          have G2 := G.set k (.int .u32 ((halfF h k : Nat) : Int))
          rw [Iv_set, mixF_set h k 17] at G2
          have ev : halfF h k = x / 2 + y % 2 * 32768 := by rw [← HXX.out, ← HYY.out]; rfl
          rw [ev] at G2
          have b5 := b4.setCell (p := ⟨ge, k, none⟩) hge (.int .u32 ((x / 2 + y % 2 * 32768 : Nat) : Int))
          clear c1 PAh HP HXX HYY f9 ev l1 l2 hS SG G b4
          go_wp2
          exact ⟨⟨k + 1, by omega, by go_num, G2, b5⟩, by simp [intOf]; omega⟩
        · obtain rfl : k = 17 := by omega
          rw [mixF_full h 17 hh2] at HE3
          go_wp2
          exact ⟨⟨m + 1, by omega, by go_num, by rw [HX.out]; exact HE3, b3⟩, by simp [intOf]; omega⟩
    · obtain rfl : m = 3 := by omega
      have hv := halves_val f f1 17 f2 3
      rw [f3] at hv
      have hh1 := halves_lt f f1 3
      have hh2 := halves_high f 17 f2 3
      generalize halves 3 f = h at *
      have SE := Sl.of_blk HE2 hh1 hh2
      have hE : lv h 17 = 7237005577332262213973186563042994240829374041602535252466099000494570602494 := by
        rw [hv, pp_eq]
      have hee : LongIs _ (SlV ge 17 ce) (lv h 17) := ⟨ge, 17, ce, h, rfl, SE, rfl, by decide⟩
      rw [hE] at hee
      clear hv hE SE HE2 hh1 hh2 f1 f2 f3
      have b := b2
      clear b2
      replace hy := hy.below b
      replace hw := hw.below b
      replace KR := KR.below' b
      replace hB := hB.trans (b.mono hB.size)
      clear b
      go_wp2_with fail
      refine (rpow_v vw (SlV ge 17 ce) WN 7237005577332262213973186563042994240829374041602535252466099000494570602494 X1 _ hw hee HX1.out).mono ?_
      rintro _ w17 ⟨vx1, rfl, hx1, b⟩
      replace hy := hy.below b
      replace hw := hw.below b
      replace hee := hee.below b
      replace KR := KR.below' b
      replace hB := hB.trans (b.mono hB.size)
      clear b
      clear hee
      go_wp2_with fail
      refine (rmul_v vx1 vx1 X1 X1 (fm X1 X1) _ hx1 hx1 rfl).mono ?_
      rintro _ w18 ⟨vxx, rfl, hxx, b⟩
      replace hy := hy.below b
      replace hw := hw.below b
      replace hx1 := hx1.below b
      replace KR := KR.below' b
      replace hB := hB.trans (b.mono hB.size)
      clear b
      go_wp2_with fail
      refine (same_w vxx vw (fm X1 X1) WN true _ hxx hw HC1.out).mono ?_
      rintro _ w19 ⟨rfl, b⟩
      replace hy := hy.below b
      replace hw := hw.below b
      replace hx1 := hx1.below b
      replace hxx := hxx.below b
      replace KR := KR.below' b
      replace hB := hB.trans (b.mono hB.size)
      clear b
      clear hxx
      clear hw
      go_wp2_with fail
      refine (num_v 0 (by decide) _).mono ?_
      rintro _ w20 ⟨v0, rfl, h0, b⟩
      replace hy := hy.below b
      replace hx1 := hx1.below b
      replace KR := KR.below' b
      replace hB := hB.trans (b.mono hB.size)
      clear b
      go_wp2_with fail
      refine (same_w vx1 v0 X1 0 false _ hx1 h0 HZ.out).mono ?_
      rintro _ w21 ⟨rfl, b⟩
      replace hy := hy.below b
      replace hx1 := hx1.below b
      replace h0 := h0.below b
      replace KR := KR.below' b
      replace hB := hB.trans (b.mono hB.size)
      clear b
      clear h0
      have h4 := H4.out
      have h5 := H5.out
      have h7 := H7.out
      go_wp2_with fail
      refine (rpart0_v vx1 X1 q16 _ hx1 HQ.out).mono ?_
      rintro _ w22 ⟨rfl, b⟩
      replace hy := hy.below b
      replace hx1 := hx1.below b
      replace KR := KR.below' b
      replace hB := hB.trans (b.mono hB.size)
      clear b
      go_wp2_with fail
      refine (num_v 1 (by decide) _).mono ?_
      rintro _ w23 ⟨v1, rfl, h1, b⟩
      replace hy := hy.below b
      replace hx1 := hx1.below b
      replace KR := KR.below' b
      replace hB := hB.trans (b.mono hB.size)
      clear b
      have H3 := HEND.out _ vx1 vy v1 hx1 hy h1
      have one3 := Rc_one3 hx1.sl hy.sl h1.sl
      obtain ⟨gx, nx, cx, ex⟩ := hx1.sl
      obtain ⟨gy2, ny, cy2, ey⟩ := hy.sl
      obtain ⟨gz, nz, cz, ez⟩ := h1.sl
      clear h1 hx1 hy h4 h5 h7 
      subst ex ey ez
      have H9 := H3.away KR zR_not32 (Rc ⟨SlV gx nx cx, SlV gy2 ny cy2, SlV gz nz cz⟩)
      clear H3
      unfold SlV
      go_wp2_with (refine wpList_store_row rfl 42 _ _ rfl (w.heap.size + 1) (Rc ⟨SlV gx nx cx, SlV gy2 ny cy2, SlV gz nz cz⟩) rfl rfl 42 _ KR (info_Rc _) rfl one3 ?_)
      exact bodyPost_ret (results_cell_tmp rfl _ _ _ 42 _ (0, 0) _ _ rfl (KR.row _) Tryd.underlying42 rfl (info_Rc _) rfl) rfl ⟨_, rfl, H9, below_setRow hB (by omega) _⟩
end Go.Proofs.YtjaomgildhiddaaDoor
/- The reference's Read, a case (printed by genqe.py). -/
namespace Go.Proofs.YtjaomgildhiddaaDoor
open Go.RowKit
open Ed
set_option maxHeartbeats 8000000 in
set_option maxRecDepth 100000 in
theorem rread_1T4 (N M b bv o : Nat) (w : World) (hM : M < p256) (hb : byteAt N 31 = b) (ho : ((b : Nat) : Int) / 128 = (o : Int)) (hv : bits .and .u8 (b : Int) 127 = (bv : Int)) (hl : (keyOf N).set 31 (bv : Int) = keyOf M) (hlt : decide (M < pp) = true) (WN X1 : Nat) (hw : WN = wNum M) (hsq : rSquare WN = true) (hx1 : X1 = mpow WN 7237005577332262213973186563042994240829374041602535252466099000494570602494) (hc1 : decide (fm X1 X1 = WN) = true) (lX1 : X1 < pp) (hz : decide (X1 = 0) = false) (q16 q : Nat) (hq : q16 = X1 % 65536) (h4 : bits .and .u32 (q16 : Int) 1 = (q : Int)) (h5 : IntKind.u8.wrap (q : Int) = (q : Int)) (h7 : ¬ ((q : Int) = (o : Int))) (P : Pt dd) (hend : ∀ (W : World) (a b c : Value), LongIs W a (fs 0 X1) → LongIs W b M → LongIs W c 1 → RIs W ⟨a, b, c⟩ P) :
    Calls Tryd.prog 16 #[Key (keyOf N)] w fun e w' => ∃ r : R3, e = .returned (.tuple #[RW r, .bool true]) ∧ RIs w' r P ∧ Below w.heap.size w w' := by
  have HB := Lib.hid hb
  have HO := Lib.hid ho
  have HV := Lib.hid hv
  have HL := Lib.hid hl
  have HLT := Lib.hid hlt
  clear hb ho hv hl hlt
  have HW := Lib.hid hw
  clear hw
  have HSQ := Lib.hid hsq
  clear hsq
  have HX1 := Lib.hid hx1
  clear hx1
  have HC1 := Lib.hid hc1
  clear hc1
  have HZ := Lib.hid hz
  clear hz
  have HQ := Lib.hid hq
  clear hq
  have H4 := Lib.hid h4
  clear h4
  have H5 := Lib.hid h5
  clear h5
  have H7 := Lib.hid h7
  clear h7
  have HEND := Lib.hid hend
  clear hend
  unfold Key
  go_enter Tryd.func16, Tryd.ntmps16
  go_upto_region 1 with fail
  generalize hW : World.alloc (World.alloc w _) _ = W
  have hB : Below w.heap.size w W := hW ▸ ((Below.refl w.heap.size w).alloc (Nat.le_refl _) _).alloc (by simp) _
  have K0 : Blk W (w.heap.size) 23 (Iv .u8 (keyOf N)) := hW ▸ (Blk.new' (by simp) _ _).alloc _
  have KR : Blk W (w.heap.size + 1) 42 zR := hW ▸ (Blk.new' (by simp) _ _)
  clear hW
  have c0 := key_cellj K0 31 (by decide)
  rw [HB.out] at c0
  have f0 := K0.frozen 31
  have hsh := HO.out
  have hand := HV.out
  go_upto_region 3 with fail
  replace K0 := K0.set 31 (.int .u8 (bv : Int))
  rw [Iv_set, HL.out] at K0
  replace KR : Blk _ _ _ _ := KR.far (p := ⟨w.heap.size, 31, none⟩) (by show w.heap.size + 1 ≠ w.heap.size; omega) (.int .u8 (bv : Int))
  replace hB := hB.setCell (p := ⟨w.heap.size, 31, none⟩) (Nat.le_refl _) (.int .u8 (bv : Int))
  clear c0 f0 hsh hand
  generalize World.setCell _ _ _ = V at *
  go_wp2_with fail
  refine (rof_any w.heap.size 23 _ _ (keyOf_bytes M) _ K0).mono ?_
  rintro _ w1 ⟨gy, cy, rfl, Sy, _, b⟩
  have hy : LongIs w1 (SlV gy 16 cy) M := ⟨gy, 16, cy, _, rfl, Sy, by rw [d_num, leTo_byteAt32 hM]; exact Nat.mod_eq_of_lt (by rw [← pow_16]; exact hM), by decide⟩
  generalize SlV gy 16 cy = vy at *
  clear Sy K0
  replace KR := KR.below' b
  replace hB := hB.trans (b.mono hB.size)
  clear b
  go_wp2_with fail
  refine (p_w _).mono ?_
  rintro _ w2 ⟨vp, rfl, hp, b⟩
  replace hy := hy.below b
  replace KR := KR.below' b
  replace hB := hB.trans (b.mono hB.size)
  clear b
  go_wp2_with fail
  refine (less_w vy vp M pp true _ hy hp HLT.out).mono ?_
  rintro _ w3 ⟨rfl, b⟩
  replace hy := hy.below b
  replace hp := hp.below b
  replace KR := KR.below' b
  replace hB := hB.trans (b.mono hB.size)
  clear b
  clear hp
  go_wp2_with fail
  refine (rmul_v vy vy M M (fm M M) _ hy hy rfl).mono ?_
  rintro _ w4 ⟨vyy, rfl, hyy, b⟩
  replace hy := hy.below b
  replace KR := KR.below' b
  replace hB := hB.trans (b.mono hB.size)
  clear b
  go_wp2_with fail
  refine (num_v 1 (by decide) _).mono ?_
  rintro _ w5 ⟨v1, rfl, h1, b⟩
  replace hy := hy.below b
  replace hyy := hyy.below b
  replace KR := KR.below' b
  replace hB := hB.trans (b.mono hB.size)
  clear b
  go_wp2_with fail
  refine (rsub_v vyy v1 (fm M M) 1 (fs (fm M M) 1) _ hyy h1 one_lt rfl).mono ?_
  rintro _ w6 ⟨vs, rfl, hs, b⟩
  replace hy := hy.below b
  replace hyy := hyy.below b
  replace h1 := h1.below b
  replace KR := KR.below' b
  replace hB := hB.trans (b.mono hB.size)
  clear b
  clear h1
  go_wp2_with fail
  refine (rd_v _).mono ?_
  rintro _ w7 ⟨vd, rfl, hd, b⟩
  replace hy := hy.below b
  replace hyy := hyy.below b
  replace hs := hs.below b
  replace KR := KR.below' b
  replace hB := hB.trans (b.mono hB.size)
  clear b
  go_wp2_with fail
  refine (rmul_v vd vyy dN (fm M M) (fm dN (fm M M)) _ hd hyy rfl).mono ?_
  rintro _ w8 ⟨vm, rfl, hm, b⟩
  replace hy := hy.below b
  replace hyy := hyy.below b
  replace hs := hs.below b
  replace hd := hd.below b
  replace KR := KR.below' b
  replace hB := hB.trans (b.mono hB.size)
  clear b
  clear hd hyy
  go_wp2_with fail
  refine (num_v 1 (by decide) _).mono ?_
  rintro _ w9 ⟨v1, rfl, h1, b⟩
  replace hy := hy.below b
  replace hs := hs.below b
  replace hm := hm.below b
  replace KR := KR.below' b
  replace hB := hB.trans (b.mono hB.size)
  clear b
  go_wp2_with fail
  refine (radd_v vm v1 (fm dN (fm M M)) 1 (fa (fm dN (fm M M)) 1) _ hm h1 rfl).mono ?_
  rintro _ w10 ⟨va, rfl, ha, b⟩
  replace hy := hy.below b
  replace hs := hs.below b
  replace hm := hm.below b
  replace h1 := h1.below b
  replace KR := KR.below' b
  replace hB := hB.trans (b.mono hB.size)
  clear b
  clear hm h1
  go_wp2_with fail
  refine (rover_v va (fa (fm dN (fm M M)) 1) (pinv (fa (fm dN (fm M M)) 1)) _ ha rfl).mono ?_
  rintro _ w11 ⟨vi, rfl, hi, b⟩
  replace hy := hy.below b
  replace hs := hs.below b
  replace ha := ha.below b
  replace KR := KR.below' b
  replace hB := hB.trans (b.mono hB.size)
  clear b
  clear ha
  go_wp2_with fail
  refine (rmul_v vs vi (fs (fm M M) 1) (pinv (fa (fm dN (fm M M)) 1)) WN _ hs hi HW.out).mono ?_
  rintro _ w12 ⟨vw, rfl, hw, b⟩
  replace hy := hy.below b
  replace hs := hs.below b
  replace hi := hi.below b
  replace KR := KR.below' b
  replace hB := hB.trans (b.mono hB.size)
  clear b
  clear hs hi
  go_wp2_with fail
  refine (rsquare_v vw WN true _ hw HSQ.out).mono ?_
  rintro _ w13 ⟨rfl, b⟩
  replace hy := hy.below b
  replace hw := hw.below b
  replace KR := KR.below' b
  replace hB := hB.trans (b.mono hB.size)
  clear b
  have b0 := Below.refl w13.heap.size w13
  go_wp2_with fail
  refine (p_any _).mono ?_
  rintro _ w14 ⟨gp, cp, rfl, SP, _, b⟩
  replace b0 := b0.trans (b.mono b0.size)
  clear b
  unfold SlV
  go_wp2_with fail
  refine (num_any 3 _ (by decide)).mono ?_
  rintro _ w15 ⟨g2, c2, rfl, S2, _, b⟩
  replace SP := SP.below b
  replace b0 := b0.trans (b.mono b0.size)
  clear b
  unfold SlV
  go_wp2_with fail
  refine (sum_blk gp 16 cp g2 2 c2 _ _ _ SP S2 (by decide) (by decide)).mono ?_
  rintro _ w16 ⟨ge, ce, rfl, HE, hge, b⟩
  replace hge := Nat.le_trans b0.size hge
  replace b0 := b0.trans (b.mono b0.size)
  clear b SP S2
  have e17 : maxN 16 2 + 1 = 17 := rfl
  rw [e17] at HE
  obtain ⟨f, hf, f1, f2, f3⟩ : ∃ f, f = sumF 17 pF (numF 3) ∧ (∀ i, f i < 65536) ∧ (∀ i, 17 ≤ i → f i = 0) ∧ lv f 17 = pp + 3 := ⟨_, rfl, sumF_lt, sumF_high, sum_p3⟩
  rw [← hf] at HE
  clear hf
  unfold SlV
  go_wp2_with fail
  go_loopw [9] (fun i wr => ∃ m : Nat, m ≤ 3 ∧ i = .int .i64 m ∧ Blk wr ge 30 (Iv .u32 ((List.range 17).map fun i => ((halves m f i : Nat) : Int))) ∧ Below w13.heap.size w13 wr) (fun i _ => 3 - (intOf i).toNat)
  case atStart => exact ⟨0, by omega, rfl, HE, b0⟩
  case round =>
    obtain ⟨m, hm, rfl, HE2, b2⟩ := hrel
    clear HE b0
    by_cases hmlt : m < 3
    · have hh1 := halves_lt f f1 m
      have hh2 := halves_high f 17 f2 m
      have hnext : halves (m + 1) f = halfF (halves m f) := rfl
      generalize halves m f = h at *
      have HX := Lib.hid hnext
      clear hnext
      have im1 : (m : Int) < 3 := by omega
      go_wp2_with fail
      go_loopw [10] (fun i wr => ∃ k : Nat, k ≤ 17 ∧ i = .int .i64 k ∧ Blk wr ge 30 (Iv .u32 ((List.range 17).map fun i => ((mixF h k i : Nat) : Int))) ∧ Below w13.heap.size w13 wr) (fun i _ => 17 - (intOf i).toNat)
      case atStart => exact ⟨0, by omega, rfl, by rw [mixF_zero]; exact HE2, b2⟩
      case round =>
        obtain ⟨k, hk, rfl, HE3, b3⟩ := hrel
        clear HE2 b2
        by_cases hlt : k < 17
        · have i1 : (0 : Int) ≤ (k : Int) := by omega
          have i2 : (k : Int) < 17 := by omega
          go_upto_region 17 with fail
          have G := HE3.drew
          have b4 := below_drew b3
          clear HE3 b3
          refine wp_region_Z (S := fun w' => w' = World.drew wr) 15 (by kernel_rfl) ?_
          generalize World.drew wr = V at G b4 ⊢
          have SG : Sl V ge 17 (mixF h k) := Sl.of_blk G (mixF_lt h hh1 k) (mixF_high h 17 hh2 k)
          have c1 : V.cell? ⟨ge, k, none⟩ = some (.int .u32 ((h k : Nat) : Int)) := by
            rw [SG.cell k hlt, mixF_at]
          have f9 := G.frozen k
          have PA : ∀ W, Sl W ge 17 (mixF h k) → Calls Tryd.prog 30 #[.slice (some ⟨ge, 0, none⟩) 17 ce, .int .i64 ((k : Int) + 1)] W fun e w' => e = .returned (.int .u32 ((h (k + 1) : Nat) : Int)) ∧ W = w' := fun W hS => by
            have := part_any ge 17 ce (mixF h k) (k + 1) W hS
            rw [mixF_next] at this
            exact this
          have l1 := hh1 k
          have l2 := hh1 (k + 1)
          have hp := half_part (h k) (h (k + 1)) l1 l2
          have i3 : IntKind.i64.wrap ((k : Int) + 1) = (k : Int) + 1 := by rw [IntKind.wrap_i64]; omega
          generalize hx : h k = x at c1 hp l1
          generalize hyy : h (k + 1) = y at PA hp l2
          have PAh := Lib.hid PA
          have HP := Lib.hid hp
          have HXX := Lib.hid hx
          have HYY := Lib.hid hyy
          clear PA hp hx hyy
          have hS : (fun w' => w' = V) V := rfl
          refine wpAnyZ_takeL 0 (v := ?_) rfl (by kernel_rfl) (by kernel_rfl) (by kernel_rfl) (by kernel_rfl) (by kernel_rfl) (fun _ _ _ h => h) (Or.inl ⟨by rfl, ?_⟩) hS ?_
          rotate_left
          · intro w' hw'
            obtain rfl : w' = V := hw'
            go_simp
            try (with_reducible rfl)
          simp only [Act.put, List.setIfInBounds_toArray, List.set_cons_zero, List.set_cons_succ]
          refine wpAnyZ_takeL 1 (v := ?_) rfl (by kernel_rfl) (by kernel_rfl) (by kernel_rfl) (by kernel_rfl) (by kernel_rfl) (fun _ _ _ h => h) (Or.inl ⟨by rfl, ?_⟩) hS ?_
          rotate_left
          · intro w' hw'
            obtain rfl : w' = V := hw'
            go_simp
            try (with_reducible rfl)
          simp only [Act.put, List.setIfInBounds_toArray, List.set_cons_zero, List.set_cons_succ]
          refine wpAnyZ_takeL 2 (v := ?_) rfl (by kernel_rfl) (by kernel_rfl) (by kernel_rfl) (by kernel_rfl) (by kernel_rfl) (fun _ _ _ h => h) (Or.inl ⟨by rfl, ?_⟩) hS ?_
          rotate_left
          · intro w' hw'
            obtain rfl : w' = V := hw'
            go_simp
            try (with_reducible rfl)
          simp only [Act.put, List.setIfInBounds_toArray, List.set_cons_zero, List.set_cons_succ]
          refine wpAnyZ_takeL 3 (v := ?_) rfl (by kernel_rfl) (by kernel_rfl) (by kernel_rfl) (by kernel_rfl) (by kernel_rfl) (fun _ _ _ h => h) (Or.inl ⟨by rfl, ?_⟩) hS ?_
          rotate_left
          · intro w' hw'
            obtain rfl : w' = V := hw'
            go_simp
            try (with_reducible rfl)
          simp only [Act.put, List.setIfInBounds_toArray, List.set_cons_zero, List.set_cons_succ]
          refine wpAnyZ_takeL 4 (v := ?_) rfl (by kernel_rfl) (by kernel_rfl) (by kernel_rfl) (by kernel_rfl) (by kernel_rfl) (fun _ _ _ h => h) (Or.inl ⟨by rfl, ?_⟩) hS ?_
          rotate_left
          · intro w' hw'
            obtain rfl : w' = V := hw'
            go_simp
            try (with_reducible rfl)
          simp only [Act.put, List.setIfInBounds_toArray, List.set_cons_zero, List.set_cons_succ]
          refine wpAnyZ_takeL 5 (v := ?_) rfl (by kernel_rfl) (by kernel_rfl) (by kernel_rfl) (by kernel_rfl) (by kernel_rfl) (fun _ _ _ h => h) (Or.inl ⟨by rfl, ?_⟩) hS ?_
          rotate_left
          · intro w' hw'
            obtain rfl : w' = V := hw'
            go_simp
            try (with_reducible rfl)
          simp only [Act.put, List.setIfInBounds_toArray, List.set_cons_zero, List.set_cons_succ]
          refine wpAnyZ_takeL 6 (v := ?_) rfl (by kernel_rfl) (by kernel_rfl) (by kernel_rfl) (by kernel_rfl) (by kernel_rfl) (fun _ _ _ h => h) (Or.inl ⟨by rfl, ?_⟩) hS ?_
          rotate_left
          · intro w' hw'
            obtain rfl : w' = V := hw'
            go_simp
            try (with_reducible rfl)
          simp only [Act.put, List.setIfInBounds_toArray, List.set_cons_zero, List.set_cons_succ]
          refine wpAnyZ_takeL 7 (v := ?_) rfl (by kernel_rfl) (by kernel_rfl) (by kernel_rfl) (by kernel_rfl) (by kernel_rfl) (fun _ _ _ h => h) (Or.inl ⟨by rfl, ?_⟩) hS ?_
          rotate_left
          · intro w' hw'
            obtain rfl : w' = V := hw'
            go_simp
            try (with_reducible rfl)
          simp only [Act.put, List.setIfInBounds_toArray, List.set_cons_zero, List.set_cons_succ]
          refine wpAnyZ_takeL 8 (v := ?_) rfl (by kernel_rfl) (by kernel_rfl) (by kernel_rfl) (by kernel_rfl) (by kernel_rfl) (fun _ _ _ h => h) (Or.inl ⟨by rfl, ?_⟩) hS ?_
          rotate_left
          · intro w' hw'
            obtain rfl : w' = V := hw'
            go_simp
            try (with_reducible rfl)
          simp only [Act.put, List.setIfInBounds_toArray, List.set_cons_zero, List.set_cons_succ]
          refine wpAnyZ_takeL 9 (v := ?_) rfl (by kernel_rfl) (by kernel_rfl) (by kernel_rfl) (by kernel_rfl) (by kernel_rfl) (fun _ _ _ h => h) (Or.inl ⟨by rfl, ?_⟩) hS ?_
          rotate_left
          · intro w' hw'
            obtain rfl : w' = V := hw'
            go_simp
            try (with_reducible rfl)
          simp only [Act.put, List.setIfInBounds_toArray, List.set_cons_zero, List.set_cons_succ]
          refine wpAnyZ_one (i := 10) (by kernel_rfl) ?_
          unfold wpOp
          go_simp
          left
          refine (PAh.out _ SG).mono ?_
          rintro e v4 ⟨rfl, rfl⟩
          refine ⟨hS, ?_⟩
          refine wpAnyZ_takeL 11 (v := ?_) rfl (by kernel_rfl) (by kernel_rfl) (by kernel_rfl) (by kernel_rfl) (by kernel_rfl) (fun _ _ _ h => h) (Or.inl ⟨by rfl, ?_⟩) hS ?_
          rotate_left
          · intro w' hw'
            obtain rfl : w' = V := hw'
            go_simp
            try (with_reducible rfl)
          simp only [Act.put, List.setIfInBounds_toArray, List.set_cons_zero, List.set_cons_succ]
          refine wpAnyZ_takeL 12 (v := ?_) rfl (by kernel_rfl) (by kernel_rfl) (by kernel_rfl) (by kernel_rfl) (by kernel_rfl) (fun _ _ _ h => h) (Or.inl ⟨by rfl, ?_⟩) hS ?_
          rotate_left
          · intro w' hw'
            obtain rfl : w' = V := hw'
            go_simp
            try (with_reducible rfl)
          simp only [Act.put, List.setIfInBounds_toArray, List.set_cons_zero, List.set_cons_succ]
          refine wpAnyZ_takeL 13 (v := ?_) rfl (by kernel_rfl) (by kernel_rfl) (by kernel_rfl) (by kernel_rfl) (by kernel_rfl) (fun _ _ _ h => h) (Or.inl ⟨by rfl, ?_⟩) hS ?_
          rotate_left
          · intro w' hw'
            obtain rfl : w' = V := hw'
            go_simp
            try (with_reducible rfl)
          simp only [Act.put, List.setIfInBounds_toArray, List.set_cons_zero, List.set_cons_succ]
          refine wpAnyZ_takeL 14 (v := ?_) rfl (by kernel_rfl) (by kernel_rfl) (by kernel_rfl) (by kernel_rfl) (by kernel_rfl) (fun _ _ _ h => h) (Or.inl ⟨by rfl, ?_⟩) hS ?_
          rotate_left
          · intro w' hw'
            obtain rfl : w' = V := hw'
            go_simp
            try (with_reducible rfl)
          simp only [Act.put, List.setIfInBounds_toArray, List.set_cons_zero, List.set_cons_succ]
          refine wpAnyZ_one (i := 15) (by kernel_rfl) ?_
          unfold wpOp
          go_simp
          left
          refine wpAnyZ_done (by kernel_rfl) ?_ _
          rw [HP.out]
          have G2 := G.set k (.int .u32 ((halfF h k : Nat) : Int))
          rw [Iv_set, mixF_set h k 17] at G2
          have ev : halfF h k = x / 2 + y % 2 * 32768 := by rw [← HXX.out, ← HYY.out]; rfl
          rw [ev] at G2
          have b5 := b4.setCell (p := ⟨ge, k, none⟩) hge (.int .u32 ((x / 2 + y % 2 * 32768 : Nat) : Int))
          clear c1 PAh HP HXX HYY f9 ev l1 l2 hS SG G b4
          go_wp2
          exact ⟨⟨k + 1, by omega, by go_num, G2, b5⟩, by simp [intOf]; omega⟩
        · obtain rfl : k = 17 := by omega
          rw [mixF_full h 17 hh2] at HE3
          go_wp2
          exact ⟨⟨m + 1, by omega, by go_num, by rw [HX.out]; exact HE3, b3⟩, by simp [intOf]; omega⟩
    · obtain rfl : m = 3 := by omega
      have hv := halves_val f f1 17 f2 3
      rw [f3] at hv
      have hh1 := halves_lt f f1 3
      have hh2 := halves_high f 17 f2 3
      generalize halves 3 f = h at *
      have SE := Sl.of_blk HE2 hh1 hh2
      have hE : lv h 17 = 7237005577332262213973186563042994240829374041602535252466099000494570602494 := by
        rw [hv, pp_eq]
      have hee : LongIs _ (SlV ge 17 ce) (lv h 17) := ⟨ge, 17, ce, h, rfl, SE, rfl, by decide⟩
      rw [hE] at hee
      clear hv hE SE HE2 hh1 hh2 f1 f2 f3
      have b := b2
      clear b2
      replace hy := hy.below b
      replace hw := hw.below b
      replace KR := KR.below' b
      replace hB := hB.trans (b.mono hB.size)
      clear b
      go_wp2_with fail
      refine (rpow_v vw (SlV ge 17 ce) WN 7237005577332262213973186563042994240829374041602535252466099000494570602494 X1 _ hw hee HX1.out).mono ?_
      rintro _ w17 ⟨vx1, rfl, hx1, b⟩
      replace hy := hy.below b
      replace hw := hw.below b
      replace hee := hee.below b
      replace KR := KR.below' b
      replace hB := hB.trans (b.mono hB.size)
      clear b
      clear hee
      go_wp2_with fail
      refine (rmul_v vx1 vx1 X1 X1 (fm X1 X1) _ hx1 hx1 rfl).mono ?_
      rintro _ w18 ⟨vxx, rfl, hxx, b⟩
      replace hy := hy.below b
      replace hw := hw.below b
      replace hx1 := hx1.below b
      replace KR := KR.below' b
      replace hB := hB.trans (b.mono hB.size)
      clear b
      go_wp2_with fail
      refine (same_w vxx vw (fm X1 X1) WN true _ hxx hw HC1.out).mono ?_
      rintro _ w19 ⟨rfl, b⟩
      replace hy := hy.below b
      replace hw := hw.below b
      replace hx1 := hx1.below b
      replace hxx := hxx.below b
      replace KR := KR.below' b
      replace hB := hB.trans (b.mono hB.size)
      clear b
      clear hxx
      clear hw
      go_wp2_with fail
      refine (num_v 0 (by decide) _).mono ?_
      rintro _ w20 ⟨v0, rfl, h0, b⟩
      replace hy := hy.below b
      replace hx1 := hx1.below b
      replace KR := KR.below' b
      replace hB := hB.trans (b.mono hB.size)
      clear b
      go_wp2_with fail
      refine (same_w vx1 v0 X1 0 false _ hx1 h0 HZ.out).mono ?_
      rintro _ w21 ⟨rfl, b⟩
      replace hy := hy.below b
      replace hx1 := hx1.below b
      replace h0 := h0.below b
      replace KR := KR.below' b
      replace hB := hB.trans (b.mono hB.size)
      clear b
      clear h0
      have h4 := H4.out
      have h5 := H5.out
      have h7 := H7.out
      go_wp2_with fail
      refine (rpart0_v vx1 X1 q16 _ hx1 HQ.out).mono ?_
      rintro _ w22 ⟨rfl, b⟩
      replace hy := hy.below b
      replace hx1 := hx1.below b
      replace KR := KR.below' b
      replace hB := hB.trans (b.mono hB.size)
      clear b
      go_wp2_with fail
      refine (num_v 0 (by decide) _).mono ?_
      rintro _ w23 ⟨v0, rfl, h0, b⟩
      replace hy := hy.below b
      replace hx1 := hx1.below b
      replace KR := KR.below' b
      replace hB := hB.trans (b.mono hB.size)
      clear b
      go_wp2_with fail
      refine (rsub_v v0 vx1 0 X1 (fs 0 X1) _ h0 hx1 lX1 rfl).mono ?_
      rintro _ w24 ⟨vn, rfl, hn, b⟩
      replace hy := hy.below b
      replace hx1 := hx1.below b
      replace h0 := h0.below b
      replace KR := KR.below' b
      replace hB := hB.trans (b.mono hB.size)
      clear b
      clear h0 hx1
      go_wp2_with fail
      refine (num_v 1 (by decide) _).mono ?_
      rintro _ w25 ⟨v1, rfl, h1, b⟩
      replace hy := hy.below b
      replace hn := hn.below b
      replace KR := KR.below' b
      replace hB := hB.trans (b.mono hB.size)
      clear b
      have H3 := HEND.out _ vn vy v1 hn hy h1
      have one3 := Rc_one3 hn.sl hy.sl h1.sl
      obtain ⟨gx, nx, cx, ex⟩ := hn.sl
      obtain ⟨gy2, ny, cy2, ey⟩ := hy.sl
      obtain ⟨gz, nz, cz, ez⟩ := h1.sl
      clear h1 hn hy h4 h5 h7 
      subst ex ey ez
      have H9 := H3.away KR zR_not32 (Rc ⟨SlV gx nx cx, SlV gy2 ny cy2, SlV gz nz cz⟩)
      clear H3
      unfold SlV
      go_wp2_with (refine wpList_store_row rfl 42 _ _ rfl (w.heap.size + 1) (Rc ⟨SlV gx nx cx, SlV gy2 ny cy2, SlV gz nz cz⟩) rfl rfl 42 _ KR (info_Rc _) rfl one3 ?_)
      exact bodyPost_ret (results_cell_tmp rfl _ _ _ 42 _ (0, 0) _ _ rfl (KR.row _) Tryd.underlying42 rfl (info_Rc _) rfl) rfl ⟨_, rfl, H9, below_setRow hB (by omega) _⟩
end Go.Proofs.YtjaomgildhiddaaDoor
/- The reference's Read, a case (printed by genqe.py). -/
namespace Go.Proofs.YtjaomgildhiddaaDoor
open Go.RowKit
open Ed
set_option maxHeartbeats 8000000 in
set_option maxRecDepth 100000 in
theorem rread_2T3 (N M b bv o : Nat) (w : World) (hM : M < p256) (hb : byteAt N 31 = b) (ho : ((b : Nat) : Int) / 128 = (o : Int)) (hv : bits .and .u8 (b : Int) 127 = (bv : Int)) (hl : (keyOf N).set 31 (bv : Int) = keyOf M) (hlt : decide (M < pp) = true) (WN X1 : Nat) (hw : WN = wNum M) (hsq : rSquare WN = true) (hx1 : X1 = mpow WN 7237005577332262213973186563042994240829374041602535252466099000494570602494) (hc1 : decide (fm X1 X1 = WN) = false) (lX1 : X1 < pp) (I X2 : Nat) (hi : I = mpow 2 14474011154664524427946373126085988481658748083205070504932198000989141204987) (hx2 : X2 = fm X1 I) (lX2 : X2 < pp) (hz : decide (X2 = 0) = false) (q16 : Nat) (hq : q16 = X2 % 65536) (h4 : bits .and .u32 (q16 : Int) 1 = (o : Int)) (h5 : IntKind.u8.wrap (o : Int) = (o : Int)) (h7 : 0 ≤ (o : Int)) (P : Pt dd) (hend : ∀ (W : World) (a b c : Value), LongIs W a X2 → LongIs W b M → LongIs W c 1 → RIs W ⟨a, b, c⟩ P) :
    Calls Tryd.prog 16 #[Key (keyOf N)] w fun e w' => ∃ r : R3, e = .returned (.tuple #[RW r, .bool true]) ∧ RIs w' r P ∧ Below w.heap.size w w' := by
  have HB := Lib.hid hb
  have HO := Lib.hid ho
  have HV := Lib.hid hv
  have HL := Lib.hid hl
  have HLT := Lib.hid hlt
  clear hb ho hv hl hlt
  have HW := Lib.hid hw
  clear hw
  have HSQ := Lib.hid hsq
  clear hsq
  have HX1 := Lib.hid hx1
  clear hx1
  have HC1 := Lib.hid hc1
  clear hc1
  have HI := Lib.hid hi
  clear hi
  have HX2 := Lib.hid hx2
  clear hx2
  have HZ := Lib.hid hz
  clear hz
  have HQ := Lib.hid hq
  clear hq
  have H4 := Lib.hid h4
  clear h4
  have H5 := Lib.hid h5
  clear h5
  have H7 := Lib.hid h7
  clear h7
  have HEND := Lib.hid hend
  clear hend
  unfold Key
  go_enter Tryd.func16, Tryd.ntmps16
  go_upto_region 1 with fail
  generalize hW : World.alloc (World.alloc w _) _ = W
  have hB : Below w.heap.size w W := hW ▸ ((Below.refl w.heap.size w).alloc (Nat.le_refl _) _).alloc (by simp) _
  have K0 : Blk W (w.heap.size) 23 (Iv .u8 (keyOf N)) := hW ▸ (Blk.new' (by simp) _ _).alloc _
  have KR : Blk W (w.heap.size + 1) 42 zR := hW ▸ (Blk.new' (by simp) _ _)
  clear hW
  have c0 := key_cellj K0 31 (by decide)
  rw [HB.out] at c0
  have f0 := K0.frozen 31
  have hsh := HO.out
  have hand := HV.out
  go_upto_region 3 with fail
  replace K0 := K0.set 31 (.int .u8 (bv : Int))
  rw [Iv_set, HL.out] at K0
  replace KR : Blk _ _ _ _ := KR.far (p := ⟨w.heap.size, 31, none⟩) (by show w.heap.size + 1 ≠ w.heap.size; omega) (.int .u8 (bv : Int))
  replace hB := hB.setCell (p := ⟨w.heap.size, 31, none⟩) (Nat.le_refl _) (.int .u8 (bv : Int))
  clear c0 f0 hsh hand
  generalize World.setCell _ _ _ = V at *
  go_wp2_with fail
  refine (rof_any w.heap.size 23 _ _ (keyOf_bytes M) _ K0).mono ?_
  rintro _ w1 ⟨gy, cy, rfl, Sy, _, b⟩
  have hy : LongIs w1 (SlV gy 16 cy) M := ⟨gy, 16, cy, _, rfl, Sy, by rw [d_num, leTo_byteAt32 hM]; exact Nat.mod_eq_of_lt (by rw [← pow_16]; exact hM), by decide⟩
  generalize SlV gy 16 cy = vy at *
  clear Sy K0
  replace KR := KR.below' b
  replace hB := hB.trans (b.mono hB.size)
  clear b
  go_wp2_with fail
  refine (p_w _).mono ?_
  rintro _ w2 ⟨vp, rfl, hp, b⟩
  replace hy := hy.below b
  replace KR := KR.below' b
  replace hB := hB.trans (b.mono hB.size)
  clear b
  go_wp2_with fail
  refine (less_w vy vp M pp true _ hy hp HLT.out).mono ?_
  rintro _ w3 ⟨rfl, b⟩
  replace hy := hy.below b
  replace hp := hp.below b
  replace KR := KR.below' b
  replace hB := hB.trans (b.mono hB.size)
  clear b
  clear hp
  go_wp2_with fail
  refine (rmul_v vy vy M M (fm M M) _ hy hy rfl).mono ?_
  rintro _ w4 ⟨vyy, rfl, hyy, b⟩
  replace hy := hy.below b
  replace KR := KR.below' b
  replace hB := hB.trans (b.mono hB.size)
  clear b
  go_wp2_with fail
  refine (num_v 1 (by decide) _).mono ?_
  rintro _ w5 ⟨v1, rfl, h1, b⟩
  replace hy := hy.below b
  replace hyy := hyy.below b
  replace KR := KR.below' b
  replace hB := hB.trans (b.mono hB.size)
  clear b
  go_wp2_with fail
  refine (rsub_v vyy v1 (fm M M) 1 (fs (fm M M) 1) _ hyy h1 one_lt rfl).mono ?_
  rintro _ w6 ⟨vs, rfl, hs, b⟩
  replace hy := hy.below b
  replace hyy := hyy.below b
  replace h1 := h1.below b
  replace KR := KR.below' b
  replace hB := hB.trans (b.mono hB.size)
  clear b
  clear h1
  go_wp2_with fail
  refine (rd_v _).mono ?_
  rintro _ w7 ⟨vd, rfl, hd, b⟩
  replace hy := hy.below b
  replace hyy := hyy.below b
  replace hs := hs.below b
  replace KR := KR.below' b
  replace hB := hB.trans (b.mono hB.size)
  clear b
  go_wp2_with fail
  refine (rmul_v vd vyy dN (fm M M) (fm dN (fm M M)) _ hd hyy rfl).mono ?_
  rintro _ w8 ⟨vm, rfl, hm, b⟩
  replace hy := hy.below b
  replace hyy := hyy.below b
  replace hs := hs.below b
  replace hd := hd.below b
  replace KR := KR.below' b
  replace hB := hB.trans (b.mono hB.size)
  clear b
  clear hd hyy
  go_wp2_with fail
  refine (num_v 1 (by decide) _).mono ?_
  rintro _ w9 ⟨v1, rfl, h1, b⟩
  replace hy := hy.below b
  replace hs := hs.below b
  replace hm := hm.below b
  replace KR := KR.below' b
  replace hB := hB.trans (b.mono hB.size)
  clear b
  go_wp2_with fail
  refine (radd_v vm v1 (fm dN (fm M M)) 1 (fa (fm dN (fm M M)) 1) _ hm h1 rfl).mono ?_
  rintro _ w10 ⟨va, rfl, ha, b⟩
  replace hy := hy.below b
  replace hs := hs.below b
  replace hm := hm.below b
  replace h1 := h1.below b
  replace KR := KR.below' b
  replace hB := hB.trans (b.mono hB.size)
  clear b
  clear hm h1
  go_wp2_with fail
  refine (rover_v va (fa (fm dN (fm M M)) 1) (pinv (fa (fm dN (fm M M)) 1)) _ ha rfl).mono ?_
  rintro _ w11 ⟨vi, rfl, hi, b⟩
  replace hy := hy.below b
  replace hs := hs.below b
  replace ha := ha.below b
  replace KR := KR.below' b
  replace hB := hB.trans (b.mono hB.size)
  clear b
  clear ha
  go_wp2_with fail
  refine (rmul_v vs vi (fs (fm M M) 1) (pinv (fa (fm dN (fm M M)) 1)) WN _ hs hi HW.out).mono ?_
  rintro _ w12 ⟨vw, rfl, hw, b⟩
  replace hy := hy.below b
  replace hs := hs.below b
  replace hi := hi.below b
  replace KR := KR.below' b
  replace hB := hB.trans (b.mono hB.size)
  clear b
  clear hs hi
  go_wp2_with fail
  refine (rsquare_v vw WN true _ hw HSQ.out).mono ?_
  rintro _ w13 ⟨rfl, b⟩
  replace hy := hy.below b
  replace hw := hw.below b
  replace KR := KR.below' b
  replace hB := hB.trans (b.mono hB.size)
  clear b
  have b0 := Below.refl w13.heap.size w13
  go_wp2_with fail
  refine (p_any _).mono ?_
  rintro _ w14 ⟨gp, cp, rfl, SP, _, b⟩
  replace b0 := b0.trans (b.mono b0.size)
  clear b
  unfold SlV
  go_wp2_with fail
  refine (num_any 3 _ (by decide)).mono ?_
  rintro _ w15 ⟨g2, c2, rfl, S2, _, b⟩
  replace SP := SP.below b
  replace b0 := b0.trans (b.mono b0.size)
  clear b
  unfold SlV
  go_wp2_with fail
  refine (sum_blk gp 16 cp g2 2 c2 _ _ _ SP S2 (by decide) (by decide)).mono ?_
  rintro _ w16 ⟨ge, ce, rfl, HE, hge, b⟩
  replace hge := Nat.le_trans b0.size hge
  replace b0 := b0.trans (b.mono b0.size)
  clear b SP S2
  have e17 : maxN 16 2 + 1 = 17 := rfl
  rw [e17] at HE
  obtain ⟨f, hf, f1, f2, f3⟩ : ∃ f, f = sumF 17 pF (numF 3) ∧ (∀ i, f i < 65536) ∧ (∀ i, 17 ≤ i → f i = 0) ∧ lv f 17 = pp + 3 := ⟨_, rfl, sumF_lt, sumF_high, sum_p3⟩
  rw [← hf] at HE
  clear hf
  unfold SlV
  go_wp2_with fail
  go_loopw [9] (fun i wr => ∃ m : Nat, m ≤ 3 ∧ i = .int .i64 m ∧ Blk wr ge 30 (Iv .u32 ((List.range 17).map fun i => ((halves m f i : Nat) : Int))) ∧ Below w13.heap.size w13 wr) (fun i _ => 3 - (intOf i).toNat)
  case atStart => exact ⟨0, by omega, rfl, HE, b0⟩
  case round =>
    obtain ⟨m, hm, rfl, HE2, b2⟩ := hrel
    clear HE b0
    by_cases hmlt : m < 3
    · have hh1 := halves_lt f f1 m
      have hh2 := halves_high f 17 f2 m
      have hnext : halves (m + 1) f = halfF (halves m f) := rfl
      generalize halves m f = h at *
      have HX := Lib.hid hnext
      clear hnext
      have im1 : (m : Int) < 3 := by omega
      go_wp2_with fail
      go_loopw [10] (fun i wr => ∃ k : Nat, k ≤ 17 ∧ i = .int .i64 k ∧ Blk wr ge 30 (Iv .u32 ((List.range 17).map fun i => ((mixF h k i : Nat) : Int))) ∧ Below w13.heap.size w13 wr) (fun i _ => 17 - (intOf i).toNat)
      case atStart => exact ⟨0, by omega, rfl, by rw [mixF_zero]; exact HE2, b2⟩
      case round =>
        obtain ⟨k, hk, rfl, HE3, b3⟩ := hrel
        clear HE2 b2
        by_cases hlt : k < 17
        · have i1 : (0 : Int) ≤ (k : Int) := by omega
          have i2 : (k : Int) < 17 := by omega
          go_upto_region 17 with fail
          have G := HE3.drew
          have b4 := below_drew b3
          clear HE3 b3
          refine wp_region_Z (S := fun w' => w' = World.drew wr) 15 (by kernel_rfl) ?_
          generalize World.drew wr = V at G b4 ⊢
          have SG : Sl V ge 17 (mixF h k) := Sl.of_blk G (mixF_lt h hh1 k) (mixF_high h 17 hh2 k)
          have c1 : V.cell? ⟨ge, k, none⟩ = some (.int .u32 ((h k : Nat) : Int)) := by
            rw [SG.cell k hlt, mixF_at]
          have f9 := G.frozen k
          have PA : ∀ W, Sl W ge 17 (mixF h k) → Calls Tryd.prog 30 #[.slice (some ⟨ge, 0, none⟩) 17 ce, .int .i64 ((k : Int) + 1)] W fun e w' => e = .returned (.int .u32 ((h (k + 1) : Nat) : Int)) ∧ W = w' := fun W hS => by
            have := part_any ge 17 ce (mixF h k) (k + 1) W hS
            rw [mixF_next] at this
            exact this
          have l1 := hh1 k
          have l2 := hh1 (k + 1)
          have hp := half_part (h k) (h (k + 1)) l1 l2
          have i3 : IntKind.i64.wrap ((k : Int) + 1) = (k : Int) + 1 := by rw [IntKind.wrap_i64]; omega
          generalize hx : h k = x at c1 hp l1
          generalize hyy : h (k + 1) = y at PA hp l2
          have PAh := Lib.hid PA
          have HP := Lib.hid hp
          have HXX := Lib.hid hx
          have HYY := Lib.hid hyy
          clear PA hp hx hyy
          have hS : (fun w' => w' = V) V := rfl
          refine wpAnyZ_takeL 0 (v := ?_) rfl (by kernel_rfl) (by kernel_rfl) (by kernel_rfl) (by kernel_rfl) (by kernel_rfl) (fun _ _ _ h => h) (Or.inl ⟨by rfl, ?_⟩) hS ?_
          rotate_left
          · intro w' hw'
            obtain rfl : w' = V := hw'
            go_simp
            try (with_reducible rfl)
          simp only [Act.put, List.setIfInBounds_toArray, List.set_cons_zero, List.set_cons_succ]
          refine wpAnyZ_takeL 1 (v := ?_) rfl (by kernel_rfl) (by kernel_rfl) (by kernel_rfl) (by kernel_rfl) (by kernel_rfl) (fun _ _ _ h => h) (Or.inl ⟨by rfl, ?_⟩) hS ?_
          rotate_left
          · intro w' hw'
            obtain rfl : w' = V := hw'
            go_simp
            try (with_reducible rfl)
          simp only [Act.put, List.setIfInBounds_toArray, List.set_cons_zero, List.set_cons_succ]
          refine wpAnyZ_takeL 2 (v := ?_) rfl (by kernel_rfl) (by kernel_rfl) (by kernel_rfl) (by kernel_rfl) (by kernel_rfl) (fun _ _ _ h => h) (Or.inl ⟨by rfl, ?_⟩) hS ?_
          rotate_left
          · intro w' hw'
            obtain rfl : w' = V := hw'
            go_simp
            try (with_reducible rfl)
          simp only [Act.put, List.setIfInBounds_toArray, List.set_cons_zero, List.set_cons_succ]
          refine wpAnyZ_takeL 3 (v := ?_) rfl (by kernel_rfl) (by kernel_rfl) (by kernel_rfl) (by kernel_rfl) (by kernel_rfl) (fun _ _ _ h => h) (Or.inl ⟨by rfl, ?_⟩) hS ?_
          rotate_left
          · intro w' hw'
            obtain rfl : w' = V := hw'
            go_simp
            try (with_reducible rfl)
          simp only [Act.put, List.setIfInBounds_toArray, List.set_cons_zero, List.set_cons_succ]
          refine wpAnyZ_takeL 4 (v := ?_) rfl (by kernel_rfl) (by kernel_rfl) (by kernel_rfl) (by kernel_rfl) (by kernel_rfl) (fun _ _ _ h => h) (Or.inl ⟨by rfl, ?_⟩) hS ?_
          rotate_left
          · intro w' hw'
            obtain rfl : w' = V := hw'
            go_simp
            try (with_reducible rfl)
          simp only [Act.put, List.setIfInBounds_toArray, List.set_cons_zero, List.set_cons_succ]
          refine wpAnyZ_takeL 5 (v := ?_) rfl (by kernel_rfl) (by kernel_rfl) (by kernel_rfl) (by kernel_rfl) (by kernel_rfl) (fun _ _ _ h => h) (Or.inl ⟨by rfl, ?_⟩) hS ?_
          rotate_left
          · intro w' hw'
            obtain rfl : w' = V := hw'
            go_simp
            try (with_reducible rfl)
          simp only [Act.put, List.setIfInBounds_toArray, List.set_cons_zero, List.set_cons_succ]
          refine wpAnyZ_takeL 6 (v := ?_) rfl (by kernel_rfl) (by kernel_rfl) (by kernel_rfl) (by kernel_rfl) (by kernel_rfl) (fun _ _ _ h => h) (Or.inl ⟨by rfl, ?_⟩) hS ?_
          rotate_left
          · intro w' hw'
            obtain rfl : w' = V := hw'
            go_simp
            try (with_reducible rfl)
          simp only [Act.put, List.setIfInBounds_toArray, List.set_cons_zero, List.set_cons_succ]
          refine wpAnyZ_takeL 7 (v := ?_) rfl (by kernel_rfl) (by kernel_rfl) (by kernel_rfl) (by kernel_rfl) (by kernel_rfl) (fun _ _ _ h => h) (Or.inl ⟨by rfl, ?_⟩) hS ?_
          rotate_left
          · intro w' hw'
            obtain rfl : w' = V := hw'
            go_simp
            try (with_reducible rfl)
          simp only [Act.put, List.setIfInBounds_toArray, List.set_cons_zero, List.set_cons_succ]
          refine wpAnyZ_takeL 8 (v := ?_) rfl (by kernel_rfl) (by kernel_rfl) (by kernel_rfl) (by kernel_rfl) (by kernel_rfl) (fun _ _ _ h => h) (Or.inl ⟨by rfl, ?_⟩) hS ?_
          rotate_left
          · intro w' hw'
            obtain rfl : w' = V := hw'
            go_simp
            try (with_reducible rfl)
          simp only [Act.put, List.setIfInBounds_toArray, List.set_cons_zero, List.set_cons_succ]
          refine wpAnyZ_takeL 9 (v := ?_) rfl (by kernel_rfl) (by kernel_rfl) (by kernel_rfl) (by kernel_rfl) (by kernel_rfl) (fun _ _ _ h => h) (Or.inl ⟨by rfl, ?_⟩) hS ?_
          rotate_left
          · intro w' hw'
            obtain rfl : w' = V := hw'
            go_simp
            try (with_reducible rfl)
          simp only [Act.put, List.setIfInBounds_toArray, List.set_cons_zero, List.set_cons_succ]
          refine wpAnyZ_one (i := 10) (by kernel_rfl) ?_
          unfold wpOp
          go_simp
          left
          refine (PAh.out _ SG).mono ?_
          rintro e v4 ⟨rfl, rfl⟩
          refine ⟨hS, ?_⟩
          refine wpAnyZ_takeL 11 (v := ?_) rfl (by kernel_rfl) (by kernel_rfl) (by kernel_rfl) (by kernel_rfl) (by kernel_rfl) (fun _ _ _ h => h) (Or.inl ⟨by rfl, ?_⟩) hS ?_
          rotate_left
          · intro w' hw'
            obtain rfl : w' = V := hw'
            go_simp
            try (with_reducible rfl)
          simp only [Act.put, List.setIfInBounds_toArray, List.set_cons_zero, List.set_cons_succ]
          refine wpAnyZ_takeL 12 (v := ?_) rfl (by kernel_rfl) (by kernel_rfl) (by kernel_rfl) (by kernel_rfl) (by kernel_rfl) (fun _ _ _ h => h) (Or.inl ⟨by rfl, ?_⟩) hS ?_
          rotate_left
          · intro w' hw'
            obtain rfl : w' = V := hw'
            go_simp
            try (with_reducible rfl)
          simp only [Act.put, List.setIfInBounds_toArray, List.set_cons_zero, List.set_cons_succ]
          refine wpAnyZ_takeL 13 (v := ?_) rfl (by kernel_rfl) (by kernel_rfl) (by kernel_rfl) (by kernel_rfl) (by kernel_rfl) (fun _ _ _ h => h) (Or.inl ⟨by rfl, ?_⟩) hS ?_
          rotate_left
          · intro w' hw'
            obtain rfl : w' = V := hw'
            go_simp
            try (with_reducible rfl)
          simp only [Act.put, List.setIfInBounds_toArray, List.set_cons_zero, List.set_cons_succ]
          refine wpAnyZ_takeL 14 (v := ?_) rfl (by kernel_rfl) (by kernel_rfl) (by kernel_rfl) (by kernel_rfl) (by kernel_rfl) (fun _ _ _ h => h) (Or.inl ⟨by rfl, ?_⟩) hS ?_
          rotate_left
          · intro w' hw'
            obtain rfl : w' = V := hw'
            go_simp
            try (with_reducible rfl)
          simp only [Act.put, List.setIfInBounds_toArray, List.set_cons_zero, List.set_cons_succ]
          refine wpAnyZ_one (i := 15) (by kernel_rfl) ?_
          unfold wpOp
          go_simp
          left
          refine wpAnyZ_done (by kernel_rfl) ?_ _
          rw [HP.out]
          have G2 := G.set k (.int .u32 ((halfF h k : Nat) : Int))
          rw [Iv_set, mixF_set h k 17] at G2
          have ev : halfF h k = x / 2 + y % 2 * 32768 := by rw [← HXX.out, ← HYY.out]; rfl
          rw [ev] at G2
          have b5 := b4.setCell (p := ⟨ge, k, none⟩) hge (.int .u32 ((x / 2 + y % 2 * 32768 : Nat) : Int))
          clear c1 PAh HP HXX HYY f9 ev l1 l2 hS SG G b4
          go_wp2
          exact ⟨⟨k + 1, by omega, by go_num, G2, b5⟩, by simp [intOf]; omega⟩
        · obtain rfl : k = 17 := by omega
          rw [mixF_full h 17 hh2] at HE3
          go_wp2
          exact ⟨⟨m + 1, by omega, by go_num, by rw [HX.out]; exact HE3, b3⟩, by simp [intOf]; omega⟩
    · obtain rfl : m = 3 := by omega
      have hv := halves_val f f1 17 f2 3
      rw [f3] at hv
      have hh1 := halves_lt f f1 3
      have hh2 := halves_high f 17 f2 3
      generalize halves 3 f = h at *
      have SE := Sl.of_blk HE2 hh1 hh2
      have hE : lv h 17 = 7237005577332262213973186563042994240829374041602535252466099000494570602494 := by
        rw [hv, pp_eq]
      have hee : LongIs _ (SlV ge 17 ce) (lv h 17) := ⟨ge, 17, ce, h, rfl, SE, rfl, by decide⟩
      rw [hE] at hee
      clear hv hE SE HE2 hh1 hh2 f1 f2 f3
      have b := b2
      clear b2
      replace hy := hy.below b
      replace hw := hw.below b
      replace KR := KR.below' b
      replace hB := hB.trans (b.mono hB.size)
      clear b
      go_wp2_with fail
      refine (rpow_v vw (SlV ge 17 ce) WN 7237005577332262213973186563042994240829374041602535252466099000494570602494 X1 _ hw hee HX1.out).mono ?_
      rintro _ w17 ⟨vx1, rfl, hx1, b⟩
      replace hy := hy.below b
      replace hw := hw.below b
      replace hee := hee.below b
      replace KR := KR.below' b
      replace hB := hB.trans (b.mono hB.size)
      clear b
      clear hee
      go_wp2_with fail
      refine (rmul_v vx1 vx1 X1 X1 (fm X1 X1) _ hx1 hx1 rfl).mono ?_
      rintro _ w18 ⟨vxx, rfl, hxx, b⟩
      replace hy := hy.below b
      replace hw := hw.below b
      replace hx1 := hx1.below b
      replace KR := KR.below' b
      replace hB := hB.trans (b.mono hB.size)
      clear b
      go_wp2_with fail
      refine (same_w vxx vw (fm X1 X1) WN false _ hxx hw HC1.out).mono ?_
      rintro _ w19 ⟨rfl, b⟩
      replace hy := hy.below b
      replace hw := hw.below b
      replace hx1 := hx1.below b
      replace hxx := hxx.below b
      replace KR := KR.below' b
      replace hB := hB.trans (b.mono hB.size)
      clear b
      clear hxx
      clear hw
      have b0 := Below.refl w19.heap.size w19
      go_wp2_with fail
      refine (p_any _).mono ?_
      rintro _ w20 ⟨gp, cp, rfl, SP, _, b⟩
      replace b0 := b0.trans (b.mono b0.size)
      clear b
      unfold SlV
      go_wp2_with fail
      refine (num_any 1 _ (by decide)).mono ?_
      rintro _ w21 ⟨g2, c2, rfl, S2, _, b⟩
      replace SP := SP.below b
      replace b0 := b0.trans (b.mono b0.size)
      clear b
      unfold SlV
      go_wp2_with fail
      refine (minus_blk gp 16 cp g2 2 c2 _ _ _ SP S2 (by decide)).mono ?_
      rintro _ w22 ⟨ge, ce, rfl, HE, hge, b⟩
      replace hge := Nat.le_trans b0.size hge
      replace b0 := b0.trans (b.mono b0.size)
      clear b SP S2
      obtain ⟨f, hf, f1, f2, f3⟩ : ∃ f, f = subF 16 pF (numF 1) ∧ (∀ i, f i < 65536) ∧ (∀ i, 16 ≤ i → f i = 0) ∧ lv f 16 = pp - 1 := ⟨_, rfl, subF_lt, subF_high, sub_p1⟩
      rw [← hf] at HE
      clear hf
      unfold SlV
      go_wp2_with fail
      go_loopw [12] (fun i wr => ∃ m : Nat, m ≤ 2 ∧ i = .int .i64 m ∧ Blk wr ge 30 (Iv .u32 ((List.range 16).map fun i => ((halves m f i : Nat) : Int))) ∧ Below w19.heap.size w19 wr) (fun i _ => 2 - (intOf i).toNat)
      case atStart => exact ⟨0, by omega, rfl, HE, b0⟩
      case round =>
        obtain ⟨m, hm, rfl, HE2, b2⟩ := hrel
        clear HE b0
        by_cases hmlt : m < 2
        · have hh1 := halves_lt f f1 m
          have hh2 := halves_high f 16 f2 m
          have hnext : halves (m + 1) f = halfF (halves m f) := rfl
          generalize halves m f = h at *
          have HX := Lib.hid hnext
          clear hnext
          have im1 : (m : Int) < 2 := by omega
          go_wp2_with fail
          go_loopw [13] (fun i wr => ∃ k : Nat, k ≤ 16 ∧ i = .int .i64 k ∧ Blk wr ge 30 (Iv .u32 ((List.range 16).map fun i => ((mixF h k i : Nat) : Int))) ∧ Below w19.heap.size w19 wr) (fun i _ => 16 - (intOf i).toNat)
          case atStart => exact ⟨0, by omega, rfl, by rw [mixF_zero]; exact HE2, b2⟩
          case round =>
            obtain ⟨k, hk, rfl, HE3, b3⟩ := hrel
            clear HE2 b2
            by_cases hlt : k < 16
            · have i1 : (0 : Int) ≤ (k : Int) := by omega
              have i2 : (k : Int) < 16 := by omega
              go_upto_region 27 with fail
              have G := HE3.drew
              have b4 := below_drew b3
              clear HE3 b3
              refine wp_region_Z (S := fun w' => w' = World.drew wr) 15 (by kernel_rfl) ?_
              generalize World.drew wr = V at G b4 ⊢
              have SG : Sl V ge 16 (mixF h k) := Sl.of_blk G (mixF_lt h hh1 k) (mixF_high h 16 hh2 k)
              have c1 : V.cell? ⟨ge, k, none⟩ = some (.int .u32 ((h k : Nat) : Int)) := by
                rw [SG.cell k hlt, mixF_at]
              have f9 := G.frozen k
              have PA : ∀ W, Sl W ge 16 (mixF h k) → Calls Tryd.prog 30 #[.slice (some ⟨ge, 0, none⟩) 16 ce, .int .i64 ((k : Int) + 1)] W fun e w' => e = .returned (.int .u32 ((h (k + 1) : Nat) : Int)) ∧ W = w' := fun W hS => by
                have := part_any ge 16 ce (mixF h k) (k + 1) W hS
                rw [mixF_next] at this
                exact this
              have l1 := hh1 k
              have l2 := hh1 (k + 1)
              have hp := half_part (h k) (h (k + 1)) l1 l2
              have i3 : IntKind.i64.wrap ((k : Int) + 1) = (k : Int) + 1 := by rw [IntKind.wrap_i64]; omega
              generalize hx : h k = x at c1 hp l1
              generalize hyy : h (k + 1) = y at PA hp l2
              have PAh := Lib.hid PA
              have HP := Lib.hid hp
              have HXX := Lib.hid hx
              have HYY := Lib.hid hyy
              clear PA hp hx hyy
              have hS : (fun w' => w' = V) V := rfl
              refine wpAnyZ_takeL 0 (v := ?_) rfl (by kernel_rfl) (by kernel_rfl) (by kernel_rfl) (by kernel_rfl) (by kernel_rfl) (fun _ _ _ h => h) (Or.inl ⟨by rfl, ?_⟩) hS ?_
              rotate_left
              · intro w' hw'
                obtain rfl : w' = V := hw'
                go_simp
                try (with_reducible rfl)
              simp only [Act.put, List.setIfInBounds_toArray, List.set_cons_zero, List.set_cons_succ]
              refine wpAnyZ_takeL 1 (v := ?_) rfl (by kernel_rfl) (by kernel_rfl) (by kernel_rfl) (by kernel_rfl) (by kernel_rfl) (fun _ _ _ h => h) (Or.inl ⟨by rfl, ?_⟩) hS ?_
              rotate_left
              · intro w' hw'
                obtain rfl : w' = V := hw'
                go_simp
                try (with_reducible rfl)
              simp only [Act.put, List.setIfInBounds_toArray, List.set_cons_zero, List.set_cons_succ]
              refine wpAnyZ_takeL 2 (v := ?_) rfl (by kernel_rfl) (by kernel_rfl) (by kernel_rfl) (by kernel_rfl) (by kernel_rfl) (fun _ _ _ h => h) (Or.inl ⟨by rfl, ?_⟩) hS ?_
              rotate_left
              · intro w' hw'
                obtain rfl : w' = V := hw'
                go_simp
                try (with_reducible rfl)
              simp only [Act.put, List.setIfInBounds_toArray, List.set_cons_zero, List.set_cons_succ]
              refine wpAnyZ_takeL 3 (v := ?_) rfl (by kernel_rfl) (by kernel_rfl) (by kernel_rfl) (by kernel_rfl) (by kernel_rfl) (fun _ _ _ h => h) (Or.inl ⟨by rfl, ?_⟩) hS ?_
              rotate_left
              · intro w' hw'
                obtain rfl : w' = V := hw'
                go_simp
                try (with_reducible rfl)
              simp only [Act.put, List.setIfInBounds_toArray, List.set_cons_zero, List.set_cons_succ]
              refine wpAnyZ_takeL 4 (v := ?_) rfl (by kernel_rfl) (by kernel_rfl) (by kernel_rfl) (by kernel_rfl) (by kernel_rfl) (fun _ _ _ h => h) (Or.inl ⟨by rfl, ?_⟩) hS ?_
              rotate_left
              · intro w' hw'
                obtain rfl : w' = V := hw'
                go_simp
                try (with_reducible rfl)
              simp only [Act.put, List.setIfInBounds_toArray, List.set_cons_zero, List.set_cons_succ]
              refine wpAnyZ_takeL 5 (v := ?_) rfl (by kernel_rfl) (by kernel_rfl) (by kernel_rfl) (by kernel_rfl) (by kernel_rfl) (fun _ _ _ h => h) (Or.inl ⟨by rfl, ?_⟩) hS ?_
              rotate_left
              · intro w' hw'
                obtain rfl : w' = V := hw'
                go_simp
                try (with_reducible rfl)
              simp only [Act.put, List.setIfInBounds_toArray, List.set_cons_zero, List.set_cons_succ]
              refine wpAnyZ_takeL 6 (v := ?_) rfl (by kernel_rfl) (by kernel_rfl) (by kernel_rfl) (by kernel_rfl) (by kernel_rfl) (fun _ _ _ h => h) (Or.inl ⟨by rfl, ?_⟩) hS ?_
              rotate_left
              · intro w' hw'
                obtain rfl : w' = V := hw'
                go_simp
                try (with_reducible rfl)
              simp only [Act.put, List.setIfInBounds_toArray, List.set_cons_zero, List.set_cons_succ]
              refine wpAnyZ_takeL 7 (v := ?_) rfl (by kernel_rfl) (by kernel_rfl) (by kernel_rfl) (by kernel_rfl) (by kernel_rfl) (fun _ _ _ h => h) (Or.inl ⟨by rfl, ?_⟩) hS ?_
              rotate_left
              · intro w' hw'
                obtain rfl : w' = V := hw'
                go_simp
                try (with_reducible rfl)
              simp only [Act.put, List.setIfInBounds_toArray, List.set_cons_zero, List.set_cons_succ]
              refine wpAnyZ_takeL 8 (v := ?_) rfl (by kernel_rfl) (by kernel_rfl) (by kernel_rfl) (by kernel_rfl) (by kernel_rfl) (fun _ _ _ h => h) (Or.inl ⟨by rfl, ?_⟩) hS ?_
              rotate_left
              · intro w' hw'
                obtain rfl : w' = V := hw'
                go_simp
                try (with_reducible rfl)
              simp only [Act.put, List.setIfInBounds_toArray, List.set_cons_zero, List.set_cons_succ]
              refine wpAnyZ_takeL 9 (v := ?_) rfl (by kernel_rfl) (by kernel_rfl) (by kernel_rfl) (by kernel_rfl) (by kernel_rfl) (fun _ _ _ h => h) (Or.inl ⟨by rfl, ?_⟩) hS ?_
              rotate_left
              · intro w' hw'
                obtain rfl : w' = V := hw'
                go_simp
                try (with_reducible rfl)
              simp only [Act.put, List.setIfInBounds_toArray, List.set_cons_zero, List.set_cons_succ]
              refine wpAnyZ_one (i := 10) (by kernel_rfl) ?_
              unfold wpOp
              go_simp
              left
              refine (PAh.out _ SG).mono ?_
              rintro e v4 ⟨rfl, rfl⟩
              refine ⟨hS, ?_⟩
              refine wpAnyZ_takeL 11 (v := ?_) rfl (by kernel_rfl) (by kernel_rfl) (by kernel_rfl) (by kernel_rfl) (by kernel_rfl) (fun _ _ _ h => h) (Or.inl ⟨by rfl, ?_⟩) hS ?_
              rotate_left
              · intro w' hw'
                obtain rfl : w' = V := hw'
                go_simp
                try (with_reducible rfl)
              simp only [Act.put, List.setIfInBounds_toArray, List.set_cons_zero, List.set_cons_succ]
              refine wpAnyZ_takeL 12 (v := ?_) rfl (by kernel_rfl) (by kernel_rfl) (by kernel_rfl) (by kernel_rfl) (by kernel_rfl) (fun _ _ _ h => h) (Or.inl ⟨by rfl, ?_⟩) hS ?_
              rotate_left
              · intro w' hw'
                obtain rfl : w' = V := hw'
                go_simp
                try (with_reducible rfl)
              simp only [Act.put, List.setIfInBounds_toArray, List.set_cons_zero, List.set_cons_succ]
              refine wpAnyZ_takeL 13 (v := ?_) rfl (by kernel_rfl) (by kernel_rfl) (by kernel_rfl) (by kernel_rfl) (by kernel_rfl) (fun _ _ _ h => h) (Or.inl ⟨by rfl, ?_⟩) hS ?_
              rotate_left
              · intro w' hw'
                obtain rfl : w' = V := hw'
                go_simp
                try (with_reducible rfl)
              simp only [Act.put, List.setIfInBounds_toArray, List.set_cons_zero, List.set_cons_succ]
              refine wpAnyZ_takeL 14 (v := ?_) rfl (by kernel_rfl) (by kernel_rfl) (by kernel_rfl) (by kernel_rfl) (by kernel_rfl) (fun _ _ _ h => h) (Or.inl ⟨by rfl, ?_⟩) hS ?_
              rotate_left
              · intro w' hw'
                obtain rfl : w' = V := hw'
                go_simp
                try (with_reducible rfl)
              simp only [Act.put, List.setIfInBounds_toArray, List.set_cons_zero, List.set_cons_succ]
              refine wpAnyZ_one (i := 15) (by kernel_rfl) ?_
              unfold wpOp
              go_simp
              left
              refine wpAnyZ_done (by kernel_rfl) ?_ _
              rw [HP.out]
              have G2 := G.set k (.int .u32 ((halfF h k : Nat) : Int))
              rw [Iv_set, mixF_set h k 16] at G2
              have ev : halfF h k = x / 2 + y % 2 * 32768 := by rw [← HXX.out, ← HYY.out]; rfl
              rw [ev] at G2
              have b5 := b4.setCell (p := ⟨ge, k, none⟩) hge (.int .u32 ((x / 2 + y % 2 * 32768 : Nat) : Int))
              clear c1 PAh HP HXX HYY f9 ev l1 l2 hS SG G b4
              go_wp2
              exact ⟨⟨k + 1, by omega, by go_num, G2, b5⟩, by simp [intOf]; omega⟩
            · obtain rfl : k = 16 := by omega
              rw [mixF_full h 16 hh2] at HE3
              go_wp2
              exact ⟨⟨m + 1, by omega, by go_num, by rw [HX.out]; exact HE3, b3⟩, by simp [intOf]; omega⟩
        · obtain rfl : m = 2 := by omega
          have hv := halves_val f f1 16 f2 2
          rw [f3] at hv
          have hh1 := halves_lt f f1 2
          have hh2 := halves_high f 16 f2 2
          generalize halves 2 f = h at *
          have SE := Sl.of_blk HE2 hh1 hh2
          have hE : lv h 16 = 14474011154664524427946373126085988481658748083205070504932198000989141204987 := by
            rw [hv, pp_eq]
          have hee : LongIs _ (SlV ge 16 ce) (lv h 16) := ⟨ge, 16, ce, h, rfl, SE, rfl, by decide⟩
          rw [hE] at hee
          clear hv hE SE HE2 hh1 hh2 f1 f2 f3
          have b := b2
          clear b2
          replace hy := hy.below b
          replace hx1 := hx1.below b
          replace KR := KR.below' b
          replace hB := hB.trans (b.mono hB.size)
          clear b
          go_wp2_with fail
          refine (num_v 2 (by decide) _).mono ?_
          rintro _ w23 ⟨v2, rfl, h2, b⟩
          replace hy := hy.below b
          replace hx1 := hx1.below b
          replace hee := hee.below b
          replace KR := KR.below' b
          replace hB := hB.trans (b.mono hB.size)
          clear b
          go_wp2_with fail
          refine (rpow_v v2 (SlV ge 16 ce) 2 14474011154664524427946373126085988481658748083205070504932198000989141204987 I _ h2 hee HI.out).mono ?_
          rintro _ w24 ⟨vi, rfl, hi, b⟩
          replace hy := hy.below b
          replace hx1 := hx1.below b
          replace hee := hee.below b
          replace h2 := h2.below b
          replace KR := KR.below' b
          replace hB := hB.trans (b.mono hB.size)
          clear b
          clear h2 hee
          go_wp2_with fail
          refine (rmul_v vx1 vi X1 I X2 _ hx1 hi HX2.out).mono ?_
          rintro _ w25 ⟨vx2, rfl, hx2, b⟩
          replace hy := hy.below b
          replace hx1 := hx1.below b
          replace hi := hi.below b
          replace KR := KR.below' b
          replace hB := hB.trans (b.mono hB.size)
          clear b
          clear hx1 hi
          go_wp2_with fail
          refine (num_v 0 (by decide) _).mono ?_
          rintro _ w26 ⟨v0, rfl, h0, b⟩
          replace hy := hy.below b
          replace hx2 := hx2.below b
          replace KR := KR.below' b
          replace hB := hB.trans (b.mono hB.size)
          clear b
          go_wp2_with fail
          refine (same_w vx2 v0 X2 0 false _ hx2 h0 HZ.out).mono ?_
          rintro _ w27 ⟨rfl, b⟩
          replace hy := hy.below b
          replace hx2 := hx2.below b
          replace h0 := h0.below b
          replace KR := KR.below' b
          replace hB := hB.trans (b.mono hB.size)
          clear b
          clear h0
          have h4 := H4.out
          have h5 := H5.out
          have h7 := H7.out
          go_wp2_with fail
          refine (rpart0_v vx2 X2 q16 _ hx2 HQ.out).mono ?_
          rintro _ w28 ⟨rfl, b⟩
          replace hy := hy.below b
          replace hx2 := hx2.below b
          replace KR := KR.below' b
          replace hB := hB.trans (b.mono hB.size)
          clear b
          go_wp2_with fail
          refine (num_v 1 (by decide) _).mono ?_
          rintro _ w29 ⟨v1, rfl, h1, b⟩
          replace hy := hy.below b
          replace hx2 := hx2.below b
          replace KR := KR.below' b
          replace hB := hB.trans (b.mono hB.size)
          clear b
          have H3 := HEND.out _ vx2 vy v1 hx2 hy h1
          have one3 := Rc_one3 hx2.sl hy.sl h1.sl
          obtain ⟨gx, nx, cx, ex⟩ := hx2.sl
          obtain ⟨gy2, ny, cy2, ey⟩ := hy.sl
          obtain ⟨gz, nz, cz, ez⟩ := h1.sl
          clear h1 hx2 hy h4 h5 h7 
          subst ex ey ez
          have H9 := H3.away KR zR_not32 (Rc ⟨SlV gx nx cx, SlV gy2 ny cy2, SlV gz nz cz⟩)
          clear H3
          unfold SlV
          go_wp2_with (refine wpList_store_row rfl 42 _ _ rfl (w.heap.size + 1) (Rc ⟨SlV gx nx cx, SlV gy2 ny cy2, SlV gz nz cz⟩) rfl rfl 42 _ KR (info_Rc _) rfl one3 ?_)
          exact bodyPost_ret (results_cell_tmp rfl _ _ _ 42 _ (0, 0) _ _ rfl (KR.row _) Tryd.underlying42 rfl (info_Rc _) rfl) rfl ⟨_, rfl, H9, below_setRow hB (by omega) _⟩
end Go.Proofs.YtjaomgildhiddaaDoor
/- The reference's Read, a case (printed by genqe.py). -/
namespace Go.Proofs.YtjaomgildhiddaaDoor
open Go.RowKit
open Ed
set_option maxHeartbeats 8000000 in
set_option maxRecDepth 100000 in
theorem rread_2T4 (N M b bv o : Nat) (w : World) (hM : M < p256) (hb : byteAt N 31 = b) (ho : ((b : Nat) : Int) / 128 = (o : Int)) (hv : bits .and .u8 (b : Int) 127 = (bv : Int)) (hl : (keyOf N).set 31 (bv : Int) = keyOf M) (hlt : decide (M < pp) = true) (WN X1 : Nat) (hw : WN = wNum M) (hsq : rSquare WN = true) (hx1 : X1 = mpow WN 7237005577332262213973186563042994240829374041602535252466099000494570602494) (hc1 : decide (fm X1 X1 = WN) = false) (lX1 : X1 < pp) (I X2 : Nat) (hi : I = mpow 2 14474011154664524427946373126085988481658748083205070504932198000989141204987) (hx2 : X2 = fm X1 I) (lX2 : X2 < pp) (hz : decide (X2 = 0) = false) (q16 q : Nat) (hq : q16 = X2 % 65536) (h4 : bits .and .u32 (q16 : Int) 1 = (q : Int)) (h5 : IntKind.u8.wrap (q : Int) = (q : Int)) (h7 : ¬ ((q : Int) = (o : Int))) (P : Pt dd) (hend : ∀ (W : World) (a b c : Value), LongIs W a (fs 0 X2) → LongIs W b M → LongIs W c 1 → RIs W ⟨a, b, c⟩ P) :
    Calls Tryd.prog 16 #[Key (keyOf N)] w fun e w' => ∃ r : R3, e = .returned (.tuple #[RW r, .bool true]) ∧ RIs w' r P ∧ Below w.heap.size w w' := by
  have HB := Lib.hid hb
  have HO := Lib.hid ho
  have HV := Lib.hid hv
  have HL := Lib.hid hl
  have HLT := Lib.hid hlt
  clear hb ho hv hl hlt
  have HW := Lib.hid hw
  clear hw
  have HSQ := Lib.hid hsq
  clear hsq
  have HX1 := Lib.hid hx1
  clear hx1
  have HC1 := Lib.hid hc1
  clear hc1
  have HI := Lib.hid hi
  clear hi
  have HX2 := Lib.hid hx2
  clear hx2
  have HZ := Lib.hid hz
  clear hz
  have HQ := Lib.hid hq
  clear hq
  have H4 := Lib.hid h4
  clear h4
  have H5 := Lib.hid h5
  clear h5
  have H7 := Lib.hid h7
  clear h7
  have HEND := Lib.hid hend
  clear hend
  unfold Key
  go_enter Tryd.func16, Tryd.ntmps16
  go_upto_region 1 with fail
  generalize hW : World.alloc (World.alloc w _) _ = W
  have hB : Below w.heap.size w W := hW ▸ ((Below.refl w.heap.size w).alloc (Nat.le_refl _) _).alloc (by simp) _
  have K0 : Blk W (w.heap.size) 23 (Iv .u8 (keyOf N)) := hW ▸ (Blk.new' (by simp) _ _).alloc _
  have KR : Blk W (w.heap.size + 1) 42 zR := hW ▸ (Blk.new' (by simp) _ _)
  clear hW
  have c0 := key_cellj K0 31 (by decide)
  rw [HB.out] at c0
  have f0 := K0.frozen 31
  have hsh := HO.out
  have hand := HV.out
  go_upto_region 3 with fail
  replace K0 := K0.set 31 (.int .u8 (bv : Int))
  rw [Iv_set, HL.out] at K0
  replace KR : Blk _ _ _ _ := KR.far (p := ⟨w.heap.size, 31, none⟩) (by show w.heap.size + 1 ≠ w.heap.size; omega) (.int .u8 (bv : Int))
  replace hB := hB.setCell (p := ⟨w.heap.size, 31, none⟩) (Nat.le_refl _) (.int .u8 (bv : Int))
  clear c0 f0 hsh hand
  generalize World.setCell _ _ _ = V at *
  go_wp2_with fail
  refine (rof_any w.heap.size 23 _ _ (keyOf_bytes M) _ K0).mono ?_
  rintro _ w1 ⟨gy, cy, rfl, Sy, _, b⟩
  have hy : LongIs w1 (SlV gy 16 cy) M := ⟨gy, 16, cy, _, rfl, Sy, by rw [d_num, leTo_byteAt32 hM]; exact Nat.mod_eq_of_lt (by rw [← pow_16]; exact hM), by decide⟩
  generalize SlV gy 16 cy = vy at *
  clear Sy K0
  replace KR := KR.below' b
  replace hB := hB.trans (b.mono hB.size)
  clear b
  go_wp2_with fail
  refine (p_w _).mono ?_
  rintro _ w2 ⟨vp, rfl, hp, b⟩
  replace hy := hy.below b
  replace KR := KR.below' b
  replace hB := hB.trans (b.mono hB.size)
  clear b
  go_wp2_with fail
  refine (less_w vy vp M pp true _ hy hp HLT.out).mono ?_
  rintro _ w3 ⟨rfl, b⟩
  replace hy := hy.below b
  replace hp := hp.below b
  replace KR := KR.below' b
  replace hB := hB.trans (b.mono hB.size)
  clear b
  clear hp
  go_wp2_with fail
  refine (rmul_v vy vy M M (fm M M) _ hy hy rfl).mono ?_
  rintro _ w4 ⟨vyy, rfl, hyy, b⟩
  replace hy := hy.below b
  replace KR := KR.below' b
  replace hB := hB.trans (b.mono hB.size)
  clear b
  go_wp2_with fail
  refine (num_v 1 (by decide) _).mono ?_
  rintro _ w5 ⟨v1, rfl, h1, b⟩
  replace hy := hy.below b
  replace hyy := hyy.below b
  replace KR := KR.below' b
  replace hB := hB.trans (b.mono hB.size)
  clear b
  go_wp2_with fail
  refine (rsub_v vyy v1 (fm M M) 1 (fs (fm M M) 1) _ hyy h1 one_lt rfl).mono ?_
  rintro _ w6 ⟨vs, rfl, hs, b⟩
  replace hy := hy.below b
  replace hyy := hyy.below b
  replace h1 := h1.below b
  replace KR := KR.below' b
  replace hB := hB.trans (b.mono hB.size)
  clear b
  clear h1
  go_wp2_with fail
  refine (rd_v _).mono ?_
  rintro _ w7 ⟨vd, rfl, hd, b⟩
  replace hy := hy.below b
  replace hyy := hyy.below b
  replace hs := hs.below b
  replace KR := KR.below' b
  replace hB := hB.trans (b.mono hB.size)
  clear b
  go_wp2_with fail
  refine (rmul_v vd vyy dN (fm M M) (fm dN (fm M M)) _ hd hyy rfl).mono ?_
  rintro _ w8 ⟨vm, rfl, hm, b⟩
  replace hy := hy.below b
  replace hyy := hyy.below b
  replace hs := hs.below b
  replace hd := hd.below b
  replace KR := KR.below' b
  replace hB := hB.trans (b.mono hB.size)
  clear b
  clear hd hyy
  go_wp2_with fail
  refine (num_v 1 (by decide) _).mono ?_
  rintro _ w9 ⟨v1, rfl, h1, b⟩
  replace hy := hy.below b
  replace hs := hs.below b
  replace hm := hm.below b
  replace KR := KR.below' b
  replace hB := hB.trans (b.mono hB.size)
  clear b
  go_wp2_with fail
  refine (radd_v vm v1 (fm dN (fm M M)) 1 (fa (fm dN (fm M M)) 1) _ hm h1 rfl).mono ?_
  rintro _ w10 ⟨va, rfl, ha, b⟩
  replace hy := hy.below b
  replace hs := hs.below b
  replace hm := hm.below b
  replace h1 := h1.below b
  replace KR := KR.below' b
  replace hB := hB.trans (b.mono hB.size)
  clear b
  clear hm h1
  go_wp2_with fail
  refine (rover_v va (fa (fm dN (fm M M)) 1) (pinv (fa (fm dN (fm M M)) 1)) _ ha rfl).mono ?_
  rintro _ w11 ⟨vi, rfl, hi, b⟩
  replace hy := hy.below b
  replace hs := hs.below b
  replace ha := ha.below b
  replace KR := KR.below' b
  replace hB := hB.trans (b.mono hB.size)
  clear b
  clear ha
  go_wp2_with fail
  refine (rmul_v vs vi (fs (fm M M) 1) (pinv (fa (fm dN (fm M M)) 1)) WN _ hs hi HW.out).mono ?_
  rintro _ w12 ⟨vw, rfl, hw, b⟩
  replace hy := hy.below b
  replace hs := hs.below b
  replace hi := hi.below b
  replace KR := KR.below' b
  replace hB := hB.trans (b.mono hB.size)
  clear b
  clear hs hi
  go_wp2_with fail
  refine (rsquare_v vw WN true _ hw HSQ.out).mono ?_
  rintro _ w13 ⟨rfl, b⟩
  replace hy := hy.below b
  replace hw := hw.below b
  replace KR := KR.below' b
  replace hB := hB.trans (b.mono hB.size)
  clear b
  have b0 := Below.refl w13.heap.size w13
  go_wp2_with fail
  refine (p_any _).mono ?_
  rintro _ w14 ⟨gp, cp, rfl, SP, _, b⟩
  replace b0 := b0.trans (b.mono b0.size)
  clear b
  unfold SlV
  go_wp2_with fail
  refine (num_any 3 _ (by decide)).mono ?_
  rintro _ w15 ⟨g2, c2, rfl, S2, _, b⟩
  replace SP := SP.below b
  replace b0 := b0.trans (b.mono b0.size)
  clear b
  unfold SlV
  go_wp2_with fail
  refine (sum_blk gp 16 cp g2 2 c2 _ _ _ SP S2 (by decide) (by decide)).mono ?_
  rintro _ w16 ⟨ge, ce, rfl, HE, hge, b⟩
  replace hge := Nat.le_trans b0.size hge
  replace b0 := b0.trans (b.mono b0.size)
  clear b SP S2
  have e17 : maxN 16 2 + 1 = 17 := rfl
  rw [e17] at HE
  obtain ⟨f, hf, f1, f2, f3⟩ : ∃ f, f = sumF 17 pF (numF 3) ∧ (∀ i, f i < 65536) ∧ (∀ i, 17 ≤ i → f i = 0) ∧ lv f 17 = pp + 3 := ⟨_, rfl, sumF_lt, sumF_high, sum_p3⟩
  rw [← hf] at HE
  clear hf
  unfold SlV
  go_wp2_with fail
  go_loopw [9] (fun i wr => ∃ m : Nat, m ≤ 3 ∧ i = .int .i64 m ∧ Blk wr ge 30 (Iv .u32 ((List.range 17).map fun i => ((halves m f i : Nat) : Int))) ∧ Below w13.heap.size w13 wr) (fun i _ => 3 - (intOf i).toNat)
  case atStart => exact ⟨0, by omega, rfl, HE, b0⟩
  case round =>
    obtain ⟨m, hm, rfl, HE2, b2⟩ := hrel
    clear HE b0
    by_cases hmlt : m < 3
    · have hh1 := halves_lt f f1 m
      have hh2 := halves_high f 17 f2 m
      have hnext : halves (m + 1) f = halfF (halves m f) := rfl
      generalize halves m f = h at *
      have HX := Lib.hid hnext
      clear hnext
      have im1 : (m : Int) < 3 := by omega
      go_wp2_with fail
      go_loopw [10] (fun i wr => ∃ k : Nat, k ≤ 17 ∧ i = .int .i64 k ∧ Blk wr ge 30 (Iv .u32 ((List.range 17).map fun i => ((mixF h k i : Nat) : Int))) ∧ Below w13.heap.size w13 wr) (fun i _ => 17 - (intOf i).toNat)
      case atStart => exact ⟨0, by omega, rfl, by rw [mixF_zero]; exact HE2, b2⟩
      case round =>
        obtain ⟨k, hk, rfl, HE3, b3⟩ := hrel
        clear HE2 b2
        by_cases hlt : k < 17
        · have i1 : (0 : Int) ≤ (k : Int) := by omega
          have i2 : (k : Int) < 17 := by omega
          go_upto_region 17 with fail
          have G := HE3.drew
          have b4 := below_drew b3
          clear HE3 b3
          refine wp_region_Z (S := fun w' => w' = World.drew wr) 15 (by kernel_rfl) ?_
          generalize World.drew wr = V at G b4 ⊢
          have SG : Sl V ge 17 (mixF h k) := Sl.of_blk G (mixF_lt h hh1 k) (mixF_high h 17 hh2 k)
          have c1 : V.cell? ⟨ge, k, none⟩ = some (.int .u32 ((h k : Nat) : Int)) := by
            rw [SG.cell k hlt, mixF_at]
          have f9 := G.frozen k
          have PA : ∀ W, Sl W ge 17 (mixF h k) → Calls Tryd.prog 30 #[.slice (some ⟨ge, 0, none⟩) 17 ce, .int .i64 ((k : Int) + 1)] W fun e w' => e = .returned (.int .u32 ((h (k + 1) : Nat) : Int)) ∧ W = w' := fun W hS => by
            have := part_any ge 17 ce (mixF h k) (k + 1) W hS
            rw [mixF_next] at this
            exact this
          have l1 := hh1 k
          have l2 := hh1 (k + 1)
          have hp := half_part (h k) (h (k + 1)) l1 l2
          have i3 : IntKind.i64.wrap ((k : Int) + 1) = (k : Int) + 1 := by rw [IntKind.wrap_i64]; omega
          generalize hx : h k = x at c1 hp l1
          generalize hyy : h (k + 1) = y at PA hp l2
          have PAh := Lib.hid PA
          have HP := Lib.hid hp
          have HXX := Lib.hid hx
          have HYY := Lib.hid hyy
          clear PA hp hx hyy
          have hS : (fun w' => w' = V) V := rfl
          refine wpAnyZ_takeL 0 (v := ?_) rfl (by kernel_rfl) (by kernel_rfl) (by kernel_rfl) (by kernel_rfl) (by kernel_rfl) (fun _ _ _ h => h) (Or.inl ⟨by rfl, ?_⟩) hS ?_
          rotate_left
          · intro w' hw'
            obtain rfl : w' = V := hw'
            go_simp
            try (with_reducible rfl)
          simp only [Act.put, List.setIfInBounds_toArray, List.set_cons_zero, List.set_cons_succ]
          refine wpAnyZ_takeL 1 (v := ?_) rfl (by kernel_rfl) (by kernel_rfl) (by kernel_rfl) (by kernel_rfl) (by kernel_rfl) (fun _ _ _ h => h) (Or.inl ⟨by rfl, ?_⟩) hS ?_
          rotate_left
          · intro w' hw'
            obtain rfl : w' = V := hw'
            go_simp
            try (with_reducible rfl)
          simp only [Act.put, List.setIfInBounds_toArray, List.set_cons_zero, List.set_cons_succ]
          refine wpAnyZ_takeL 2 (v := ?_) rfl (by kernel_rfl) (by kernel_rfl) (by kernel_rfl) (by kernel_rfl) (by kernel_rfl) (fun _ _ _ h => h) (Or.inl ⟨by rfl, ?_⟩) hS ?_
          rotate_left
          · intro w' hw'
            obtain rfl : w' = V := hw'
            go_simp
            try (with_reducible rfl)
          simp only [Act.put, List.setIfInBounds_toArray, List.set_cons_zero, List.set_cons_succ]
          refine wpAnyZ_takeL 3 (v := ?_) rfl (by kernel_rfl) (by kernel_rfl) (by kernel_rfl) (by kernel_rfl) (by kernel_rfl) (fun _ _ _ h => h) (Or.inl ⟨by rfl, ?_⟩) hS ?_
          rotate_left
          · intro w' hw'
            obtain rfl : w' = V := hw'
            go_simp
            try (with_reducible rfl)
          simp only [Act.put, List.setIfInBounds_toArray, List.set_cons_zero, List.set_cons_succ]
          refine wpAnyZ_takeL 4 (v := ?_) rfl (by kernel_rfl) (by kernel_rfl) (by kernel_rfl) (by kernel_rfl) (by kernel_rfl) (fun _ _ _ h => h) (Or.inl ⟨by rfl, ?_⟩) hS ?_
          rotate_left
          · intro w' hw'
            obtain rfl : w' = V := hw'
            go_simp
            try (with_reducible rfl)
          simp only [Act.put, List.setIfInBounds_toArray, List.set_cons_zero, List.set_cons_succ]
          refine wpAnyZ_takeL 5 (v := ?_) rfl (by kernel_rfl) (by kernel_rfl) (by kernel_rfl) (by kernel_rfl) (by kernel_rfl) (fun _ _ _ h => h) (Or.inl ⟨by rfl, ?_⟩) hS ?_
          rotate_left
          · intro w' hw'
            obtain rfl : w' = V := hw'
            go_simp
            try (with_reducible rfl)
          simp only [Act.put, List.setIfInBounds_toArray, List.set_cons_zero, List.set_cons_succ]
          refine wpAnyZ_takeL 6 (v := ?_) rfl (by kernel_rfl) (by kernel_rfl) (by kernel_rfl) (by kernel_rfl) (by kernel_rfl) (fun _ _ _ h => h) (Or.inl ⟨by rfl, ?_⟩) hS ?_
          rotate_left
          · intro w' hw'
            obtain rfl : w' = V := hw'
            go_simp
            try (with_reducible rfl)
          simp only [Act.put, List.setIfInBounds_toArray, List.set_cons_zero, List.set_cons_succ]
          refine wpAnyZ_takeL 7 (v := ?_) rfl (by kernel_rfl) (by kernel_rfl) (by kernel_rfl) (by kernel_rfl) (by kernel_rfl) (fun _ _ _ h => h) (Or.inl ⟨by rfl, ?_⟩) hS ?_
          rotate_left
          · intro w' hw'
            obtain rfl : w' = V := hw'
            go_simp
            try (with_reducible rfl)
          simp only [Act.put, List.setIfInBounds_toArray, List.set_cons_zero, List.set_cons_succ]
          refine wpAnyZ_takeL 8 (v := ?_) rfl (by kernel_rfl) (by kernel_rfl) (by kernel_rfl) (by kernel_rfl) (by kernel_rfl) (fun _ _ _ h => h) (Or.inl ⟨by rfl, ?_⟩) hS ?_
          rotate_left
          · intro w' hw'
            obtain rfl : w' = V := hw'
            go_simp
            try (with_reducible rfl)
          simp only [Act.put, List.setIfInBounds_toArray, List.set_cons_zero, List.set_cons_succ]
          refine wpAnyZ_takeL 9 (v := ?_) rfl (by kernel_rfl) (by kernel_rfl) (by kernel_rfl) (by kernel_rfl) (by kernel_rfl) (fun _ _ _ h => h) (Or.inl ⟨by rfl, ?_⟩) hS ?_
          rotate_left
          · intro w' hw'
            obtain rfl : w' = V := hw'
            go_simp
            try (with_reducible rfl)
          simp only [Act.put, List.setIfInBounds_toArray, List.set_cons_zero, List.set_cons_succ]
          refine wpAnyZ_one (i := 10) (by kernel_rfl) ?_
          unfold wpOp
          go_simp
          left
          refine (PAh.out _ SG).mono ?_
          rintro e v4 ⟨rfl, rfl⟩
          refine ⟨hS, ?_⟩
          refine wpAnyZ_takeL 11 (v := ?_) rfl (by kernel_rfl) (by kernel_rfl) (by kernel_rfl) (by kernel_rfl) (by kernel_rfl) (fun _ _ _ h => h) (Or.inl ⟨by rfl, ?_⟩) hS ?_
          rotate_left
          · intro w' hw'
            obtain rfl : w' = V := hw'
            go_simp
            try (with_reducible rfl)
          simp only [Act.put, List.setIfInBounds_toArray, List.set_cons_zero, List.set_cons_succ]
          refine wpAnyZ_takeL 12 (v := ?_) rfl (by kernel_rfl) (by kernel_rfl) (by kernel_rfl) (by kernel_rfl) (by kernel_rfl) (fun _ _ _ h => h) (Or.inl ⟨by rfl, ?_⟩) hS ?_
          rotate_left
          · intro w' hw'
            obtain rfl : w' = V := hw'
            go_simp
            try (with_reducible rfl)
          simp only [Act.put, List.setIfInBounds_toArray, List.set_cons_zero, List.set_cons_succ]
          refine wpAnyZ_takeL 13 (v := ?_) rfl (by kernel_rfl) (by kernel_rfl) (by kernel_rfl) (by kernel_rfl) (by kernel_rfl) (fun _ _ _ h => h) (Or.inl ⟨by rfl, ?_⟩) hS ?_
          rotate_left
          · intro w' hw'
            obtain rfl : w' = V := hw'
            go_simp
            try (with_reducible rfl)
          simp only [Act.put, List.setIfInBounds_toArray, List.set_cons_zero, List.set_cons_succ]
          refine wpAnyZ_takeL 14 (v := ?_) rfl (by kernel_rfl) (by kernel_rfl) (by kernel_rfl) (by kernel_rfl) (by kernel_rfl) (fun _ _ _ h => h) (Or.inl ⟨by rfl, ?_⟩) hS ?_
          rotate_left
          · intro w' hw'
            obtain rfl : w' = V := hw'
            go_simp
            try (with_reducible rfl)
          simp only [Act.put, List.setIfInBounds_toArray, List.set_cons_zero, List.set_cons_succ]
          refine wpAnyZ_one (i := 15) (by kernel_rfl) ?_
          unfold wpOp
          go_simp
          left
          refine wpAnyZ_done (by kernel_rfl) ?_ _
          rw [HP.out]
          have G2 := G.set k (.int .u32 ((halfF h k : Nat) : Int))
          rw [Iv_set, mixF_set h k 17] at G2
          have ev : halfF h k = x / 2 + y % 2 * 32768 := by rw [← HXX.out, ← HYY.out]; rfl
          rw [ev] at G2
          have b5 := b4.setCell (p := ⟨ge, k, none⟩) hge (.int .u32 ((x / 2 + y % 2 * 32768 : Nat) : Int))
          clear c1 PAh HP HXX HYY f9 ev l1 l2 hS SG G b4
          go_wp2
          exact ⟨⟨k + 1, by omega, by go_num, G2, b5⟩, by simp [intOf]; omega⟩
        · obtain rfl : k = 17 := by omega
          rw [mixF_full h 17 hh2] at HE3
          go_wp2
          exact ⟨⟨m + 1, by omega, by go_num, by rw [HX.out]; exact HE3, b3⟩, by simp [intOf]; omega⟩
    · obtain rfl : m = 3 := by omega
      have hv := halves_val f f1 17 f2 3
      rw [f3] at hv
      have hh1 := halves_lt f f1 3
      have hh2 := halves_high f 17 f2 3
      generalize halves 3 f = h at *
      have SE := Sl.of_blk HE2 hh1 hh2
      have hE : lv h 17 = 7237005577332262213973186563042994240829374041602535252466099000494570602494 := by
        rw [hv, pp_eq]
      have hee : LongIs _ (SlV ge 17 ce) (lv h 17) := ⟨ge, 17, ce, h, rfl, SE, rfl, by decide⟩
      rw [hE] at hee
      clear hv hE SE HE2 hh1 hh2 f1 f2 f3
      have b := b2
      clear b2
      replace hy := hy.below b
      replace hw := hw.below b
      replace KR := KR.below' b
      replace hB := hB.trans (b.mono hB.size)
      clear b
      go_wp2_with fail
      refine (rpow_v vw (SlV ge 17 ce) WN 7237005577332262213973186563042994240829374041602535252466099000494570602494 X1 _ hw hee HX1.out).mono ?_
      rintro _ w17 ⟨vx1, rfl, hx1, b⟩
      replace hy := hy.below b
      replace hw := hw.below b
      replace hee := hee.below b
      replace KR := KR.below' b
      replace hB := hB.trans (b.mono hB.size)
      clear b
      clear hee
      go_wp2_with fail
      refine (rmul_v vx1 vx1 X1 X1 (fm X1 X1) _ hx1 hx1 rfl).mono ?_
      rintro _ w18 ⟨vxx, rfl, hxx, b⟩
      replace hy := hy.below b
      replace hw := hw.below b
      replace hx1 := hx1.below b
      replace KR := KR.below' b
      replace hB := hB.trans (b.mono hB.size)
      clear b
      go_wp2_with fail
      refine (same_w vxx vw (fm X1 X1) WN false _ hxx hw HC1.out).mono ?_
      rintro _ w19 ⟨rfl, b⟩
      replace hy := hy.below b
      replace hw := hw.below b
      replace hx1 := hx1.below b
      replace hxx := hxx.below b
      replace KR := KR.below' b
      replace hB := hB.trans (b.mono hB.size)
      clear b
      clear hxx
      clear hw
      have b0 := Below.refl w19.heap.size w19
      go_wp2_with fail
      refine (p_any _).mono ?_
      rintro _ w20 ⟨gp, cp, rfl, SP, _, b⟩
      replace b0 := b0.trans (b.mono b0.size)
      clear b
      unfold SlV
      go_wp2_with fail
      refine (num_any 1 _ (by decide)).mono ?_
      rintro _ w21 ⟨g2, c2, rfl, S2, _, b⟩
      replace SP := SP.below b
      replace b0 := b0.trans (b.mono b0.size)
      clear b
      unfold SlV
      go_wp2_with fail
      refine (minus_blk gp 16 cp g2 2 c2 _ _ _ SP S2 (by decide)).mono ?_
      rintro _ w22 ⟨ge, ce, rfl, HE, hge, b⟩
      replace hge := Nat.le_trans b0.size hge
      replace b0 := b0.trans (b.mono b0.size)
      clear b SP S2
      obtain ⟨f, hf, f1, f2, f3⟩ : ∃ f, f = subF 16 pF (numF 1) ∧ (∀ i, f i < 65536) ∧ (∀ i, 16 ≤ i → f i = 0) ∧ lv f 16 = pp - 1 := ⟨_, rfl, subF_lt, subF_high, sub_p1⟩
      rw [← hf] at HE
      clear hf
      unfold SlV
      go_wp2_with fail
      go_loopw [12] (fun i wr => ∃ m : Nat, m ≤ 2 ∧ i = .int .i64 m ∧ Blk wr ge 30 (Iv .u32 ((List.range 16).map fun i => ((halves m f i : Nat) : Int))) ∧ Below w19.heap.size w19 wr) (fun i _ => 2 - (intOf i).toNat)
      case atStart => exact ⟨0, by omega, rfl, HE, b0⟩
      case round =>
        obtain ⟨m, hm, rfl, HE2, b2⟩ := hrel
        clear HE b0
        by_cases hmlt : m < 2
        · have hh1 := halves_lt f f1 m
          have hh2 := halves_high f 16 f2 m
          have hnext : halves (m + 1) f = halfF (halves m f) := rfl
          generalize halves m f = h at *
          have HX := Lib.hid hnext
          clear hnext
          have im1 : (m : Int) < 2 := by omega
          go_wp2_with fail
          go_loopw [13] (fun i wr => ∃ k : Nat, k ≤ 16 ∧ i = .int .i64 k ∧ Blk wr ge 30 (Iv .u32 ((List.range 16).map fun i => ((mixF h k i : Nat) : Int))) ∧ Below w19.heap.size w19 wr) (fun i _ => 16 - (intOf i).toNat)
          case atStart => exact ⟨0, by omega, rfl, by rw [mixF_zero]; exact HE2, b2⟩
          case round =>
            obtain ⟨k, hk, rfl, HE3, b3⟩ := hrel
            clear HE2 b2
            by_cases hlt : k < 16
            · have i1 : (0 : Int) ≤ (k : Int) := by omega
              have i2 : (k : Int) < 16 := by omega
              go_upto_region 27 with fail
              have G := HE3.drew
              have b4 := below_drew b3
              clear HE3 b3
              refine wp_region_Z (S := fun w' => w' = World.drew wr) 15 (by kernel_rfl) ?_
              generalize World.drew wr = V at G b4 ⊢
              have SG : Sl V ge 16 (mixF h k) := Sl.of_blk G (mixF_lt h hh1 k) (mixF_high h 16 hh2 k)
              have c1 : V.cell? ⟨ge, k, none⟩ = some (.int .u32 ((h k : Nat) : Int)) := by
                rw [SG.cell k hlt, mixF_at]
              have f9 := G.frozen k
              have PA : ∀ W, Sl W ge 16 (mixF h k) → Calls Tryd.prog 30 #[.slice (some ⟨ge, 0, none⟩) 16 ce, .int .i64 ((k : Int) + 1)] W fun e w' => e = .returned (.int .u32 ((h (k + 1) : Nat) : Int)) ∧ W = w' := fun W hS => by
                have := part_any ge 16 ce (mixF h k) (k + 1) W hS
                rw [mixF_next] at this
                exact this
              have l1 := hh1 k
              have l2 := hh1 (k + 1)
              have hp := half_part (h k) (h (k + 1)) l1 l2
              have i3 : IntKind.i64.wrap ((k : Int) + 1) = (k : Int) + 1 := by rw [IntKind.wrap_i64]; omega
              generalize hx : h k = x at c1 hp l1
              generalize hyy : h (k + 1) = y at PA hp l2
              have PAh := Lib.hid PA
              have HP := Lib.hid hp
              have HXX := Lib.hid hx
              have HYY := Lib.hid hyy
              clear PA hp hx hyy
              have hS : (fun w' => w' = V) V := rfl
              refine wpAnyZ_takeL 0 (v := ?_) rfl (by kernel_rfl) (by kernel_rfl) (by kernel_rfl) (by kernel_rfl) (by kernel_rfl) (fun _ _ _ h => h) (Or.inl ⟨by rfl, ?_⟩) hS ?_
              rotate_left
              · intro w' hw'
                obtain rfl : w' = V := hw'
                go_simp
                try (with_reducible rfl)
              simp only [Act.put, List.setIfInBounds_toArray, List.set_cons_zero, List.set_cons_succ]
              refine wpAnyZ_takeL 1 (v := ?_) rfl (by kernel_rfl) (by kernel_rfl) (by kernel_rfl) (by kernel_rfl) (by kernel_rfl) (fun _ _ _ h => h) (Or.inl ⟨by rfl, ?_⟩) hS ?_
              rotate_left
              · intro w' hw'
                obtain rfl : w' = V := hw'
                go_simp
                try (with_reducible rfl)
              simp only [Act.put, List.setIfInBounds_toArray, List.set_cons_zero, List.set_cons_succ]
              refine wpAnyZ_takeL 2 (v := ?_) rfl (by kernel_rfl) (by kernel_rfl) (by kernel_rfl) (by kernel_rfl) (by kernel_rfl) (fun _ _ _ h => h) (Or.inl ⟨by rfl, ?_⟩) hS ?_
              rotate_left
              · intro w' hw'
                obtain rfl : w' = V := hw'
                go_simp
                try (with_reducible rfl)
              simp only [Act.put, List.setIfInBounds_toArray, List.set_cons_zero, List.set_cons_succ]
              refine wpAnyZ_takeL 3 (v := ?_) rfl (by kernel_rfl) (by kernel_rfl) (by kernel_rfl) (by kernel_rfl) (by kernel_rfl) (fun _ _ _ h => h) (Or.inl ⟨by rfl, ?_⟩) hS ?_
              rotate_left
              · intro w' hw'
                obtain rfl : w' = V := hw'
                go_simp
                try (with_reducible rfl)
              simp only [Act.put, List.setIfInBounds_toArray, List.set_cons_zero, List.set_cons_succ]
              refine wpAnyZ_takeL 4 (v := ?_) rfl (by kernel_rfl) (by kernel_rfl) (by kernel_rfl) (by kernel_rfl) (by kernel_rfl) (fun _ _ _ h => h) (Or.inl ⟨by rfl, ?_⟩) hS ?_
              rotate_left
              · intro w' hw'
                obtain rfl : w' = V := hw'
                go_simp
                try (with_reducible rfl)
              simp only [Act.put, List.setIfInBounds_toArray, List.set_cons_zero, List.set_cons_succ]
              refine wpAnyZ_takeL 5 (v := ?_) rfl (by kernel_rfl) (by kernel_rfl) (by kernel_rfl) (by kernel_rfl) (by kernel_rfl) (fun _ _ _ h => h) (Or.inl ⟨by rfl, ?_⟩) hS ?_
              rotate_left
              · intro w' hw'
                obtain rfl : w' = V := hw'
                go_simp
                try (with_reducible rfl)
              simp only [Act.put, List.setIfInBounds_toArray, List.set_cons_zero, List.set_cons_succ]
              refine wpAnyZ_takeL 6 (v := ?_) rfl (by kernel_rfl) (by kernel_rfl) (by kernel_rfl) (by kernel_rfl) (by kernel_rfl) (fun _ _ _ h => h) (Or.inl ⟨by rfl, ?_⟩) hS ?_
              rotate_left
              · intro w' hw'
                obtain rfl : w' = V := hw'
                go_simp
                try (with_reducible rfl)
              simp only [Act.put, List.setIfInBounds_toArray, List.set_cons_zero, List.set_cons_succ]
              refine wpAnyZ_takeL 7 (v := ?_) rfl (by kernel_rfl) (by kernel_rfl) (by kernel_rfl) (by kernel_rfl) (by kernel_rfl) (fun _ _ _ h => h) (Or.inl ⟨by rfl, ?_⟩) hS ?_
              rotate_left
              · intro w' hw'
                obtain rfl : w' = V := hw'
                go_simp
                try (with_reducible rfl)
              simp only [Act.put, List.setIfInBounds_toArray, List.set_cons_zero, List.set_cons_succ]
              refine wpAnyZ_takeL 8 (v := ?_) rfl (by kernel_rfl) (by kernel_rfl) (by kernel_rfl) (by kernel_rfl) (by kernel_rfl) (fun _ _ _ h => h) (Or.inl ⟨by rfl, ?_⟩) hS ?_
              rotate_left
              · intro w' hw'
                obtain rfl : w' = V := hw'
                go_simp
                try (with_reducible rfl)
              simp only [Act.put, List.setIfInBounds_toArray, List.set_cons_zero, List.set_cons_succ]
              refine wpAnyZ_takeL 9 (v := ?_) rfl (by kernel_rfl) (by kernel_rfl) (by kernel_rfl) (by kernel_rfl) (by kernel_rfl) (fun _ _ _ h => h) (Or.inl ⟨by rfl, ?_⟩) hS ?_
              rotate_left
              · intro w' hw'
                obtain rfl : w' = V := hw'
                go_simp
                try (with_reducible rfl)
              simp only [Act.put, List.setIfInBounds_toArray, List.set_cons_zero, List.set_cons_succ]
              refine wpAnyZ_one (i := 10) (by kernel_rfl) ?_
              unfold wpOp
              go_simp
              left
              refine (PAh.out _ SG).mono ?_
              rintro e v4 ⟨rfl, rfl⟩
              refine ⟨hS, ?_⟩
              refine wpAnyZ_takeL 11 (v := ?_) rfl (by kernel_rfl) (by kernel_rfl) (by kernel_rfl) (by kernel_rfl) (by kernel_rfl) (fun _ _ _ h => h) (Or.inl ⟨by rfl, ?_⟩) hS ?_
              rotate_left
              · intro w' hw'
                obtain rfl : w' = V := hw'
                go_simp
                try (with_reducible rfl)
              simp only [Act.put, List.setIfInBounds_toArray, List.set_cons_zero, List.set_cons_succ]
              refine wpAnyZ_takeL 12 (v := ?_) rfl (by kernel_rfl) (by kernel_rfl) (by kernel_rfl) (by kernel_rfl) (by kernel_rfl) (fun _ _ _ h => h) (Or.inl ⟨by rfl, ?_⟩) hS ?_
              rotate_left
              · intro w' hw'
                obtain rfl : w' = V := hw'
                go_simp
                try (with_reducible rfl)
              simp only [Act.put, List.setIfInBounds_toArray, List.set_cons_zero, List.set_cons_succ]
              refine wpAnyZ_takeL 13 (v := ?_) rfl (by kernel_rfl) (by kernel_rfl) (by kernel_rfl) (by kernel_rfl) (by kernel_rfl) (fun _ _ _ h => h) (Or.inl ⟨by rfl, ?_⟩) hS ?_
              rotate_left
              · intro w' hw'
                obtain rfl : w' = V := hw'
                go_simp
                try (with_reducible rfl)
              simp only [Act.put, List.setIfInBounds_toArray, List.set_cons_zero, List.set_cons_succ]
              refine wpAnyZ_takeL 14 (v := ?_) rfl (by kernel_rfl) (by kernel_rfl) (by kernel_rfl) (by kernel_rfl) (by kernel_rfl) (fun _ _ _ h => h) (Or.inl ⟨by rfl, ?_⟩) hS ?_
              rotate_left
              · intro w' hw'
                obtain rfl : w' = V := hw'
                go_simp
                try (with_reducible rfl)
              simp only [Act.put, List.setIfInBounds_toArray, List.set_cons_zero, List.set_cons_succ]
              refine wpAnyZ_one (i := 15) (by kernel_rfl) ?_
              unfold wpOp
              go_simp
              left
              refine wpAnyZ_done (by kernel_rfl) ?_ _
              rw [HP.out]
              have G2 := G.set k (.int .u32 ((halfF h k : Nat) : Int))
              rw [Iv_set, mixF_set h k 16] at G2
              have ev : halfF h k = x / 2 + y % 2 * 32768 := by rw [← HXX.out, ← HYY.out]; rfl
              rw [ev] at G2
              have b5 := b4.setCell (p := ⟨ge, k, none⟩) hge (.int .u32 ((x / 2 + y % 2 * 32768 : Nat) : Int))
              clear c1 PAh HP HXX HYY f9 ev l1 l2 hS SG G b4
              go_wp2
              exact ⟨⟨k + 1, by omega, by go_num, G2, b5⟩, by simp [intOf]; omega⟩
            · obtain rfl : k = 16 := by omega
              rw [mixF_full h 16 hh2] at HE3
              go_wp2
              exact ⟨⟨m + 1, by omega, by go_num, by rw [HX.out]; exact HE3, b3⟩, by simp [intOf]; omega⟩
        · obtain rfl : m = 2 := by omega
          have hv := halves_val f f1 16 f2 2
          rw [f3] at hv
          have hh1 := halves_lt f f1 2
          have hh2 := halves_high f 16 f2 2
          generalize halves 2 f = h at *
          have SE := Sl.of_blk HE2 hh1 hh2
          have hE : lv h 16 = 14474011154664524427946373126085988481658748083205070504932198000989141204987 := by
            rw [hv, pp_eq]
          have hee : LongIs _ (SlV ge 16 ce) (lv h 16) := ⟨ge, 16, ce, h, rfl, SE, rfl, by decide⟩
          rw [hE] at hee
          clear hv hE SE HE2 hh1 hh2 f1 f2 f3
          have b := b2
          clear b2
          replace hy := hy.below b
          replace hx1 := hx1.below b
          replace KR := KR.below' b
          replace hB := hB.trans (b.mono hB.size)
          clear b
          go_wp2_with fail
          refine (num_v 2 (by decide) _).mono ?_
          rintro _ w23 ⟨v2, rfl, h2, b⟩
          replace hy := hy.below b
          replace hx1 := hx1.below b
          replace hee := hee.below b
          replace KR := KR.below' b
          replace hB := hB.trans (b.mono hB.size)
          clear b
          go_wp2_with fail
          refine (rpow_v v2 (SlV ge 16 ce) 2 14474011154664524427946373126085988481658748083205070504932198000989141204987 I _ h2 hee HI.out).mono ?_
          rintro _ w24 ⟨vi, rfl, hi, b⟩
          replace hy := hy.below b
          replace hx1 := hx1.below b
          replace hee := hee.below b
          replace h2 := h2.below b
          replace KR := KR.below' b
          replace hB := hB.trans (b.mono hB.size)
          clear b
          clear h2 hee
          go_wp2_with fail
          refine (rmul_v vx1 vi X1 I X2 _ hx1 hi HX2.out).mono ?_
          rintro _ w25 ⟨vx2, rfl, hx2, b⟩
          replace hy := hy.below b
          replace hx1 := hx1.below b
          replace hi := hi.below b
          replace KR := KR.below' b
          replace hB := hB.trans (b.mono hB.size)
          clear b
          clear hx1 hi
          go_wp2_with fail
          refine (num_v 0 (by decide) _).mono ?_
          rintro _ w26 ⟨v0, rfl, h0, b⟩
          replace hy := hy.below b
          replace hx2 := hx2.below b
          replace KR := KR.below' b
          replace hB := hB.trans (b.mono hB.size)
          clear b
          go_wp2_with fail
          refine (same_w vx2 v0 X2 0 false _ hx2 h0 HZ.out).mono ?_
          rintro _ w27 ⟨rfl, b⟩
          replace hy := hy.below b
          replace hx2 := hx2.below b
          replace h0 := h0.below b
          replace KR := KR.below' b
          replace hB := hB.trans (b.mono hB.size)
          clear b
          clear h0
          have h4 := H4.out
          have h5 := H5.out
          have h7 := H7.out
          go_wp2_with fail
          refine (rpart0_v vx2 X2 q16 _ hx2 HQ.out).mono ?_
          rintro _ w28 ⟨rfl, b⟩
          replace hy := hy.below b
          replace hx2 := hx2.below b
          replace KR := KR.below' b
          replace hB := hB.trans (b.mono hB.size)
          clear b
          go_wp2_with fail
          refine (num_v 0 (by decide) _).mono ?_
          rintro _ w29 ⟨v0, rfl, h0, b⟩
          replace hy := hy.below b
          replace hx2 := hx2.below b
          replace KR := KR.below' b
          replace hB := hB.trans (b.mono hB.size)
          clear b
          go_wp2_with fail
          refine (rsub_v v0 vx2 0 X2 (fs 0 X2) _ h0 hx2 lX2 rfl).mono ?_
          rintro _ w30 ⟨vn, rfl, hn, b⟩
          replace hy := hy.below b
          replace hx2 := hx2.below b
          replace h0 := h0.below b
          replace KR := KR.below' b
          replace hB := hB.trans (b.mono hB.size)
          clear b
          clear h0 hx2
          go_wp2_with fail
          refine (num_v 1 (by decide) _).mono ?_
          rintro _ w31 ⟨v1, rfl, h1, b⟩
          replace hy := hy.below b
          replace hn := hn.below b
          replace KR := KR.below' b
          replace hB := hB.trans (b.mono hB.size)
          clear b
          have H3 := HEND.out _ vn vy v1 hn hy h1
          have one3 := Rc_one3 hn.sl hy.sl h1.sl
          obtain ⟨gx, nx, cx, ex⟩ := hn.sl
          obtain ⟨gy2, ny, cy2, ey⟩ := hy.sl
          obtain ⟨gz, nz, cz, ez⟩ := h1.sl
          clear h1 hn hy h4 h5 h7 
          subst ex ey ez
          have H9 := H3.away KR zR_not32 (Rc ⟨SlV gx nx cx, SlV gy2 ny cy2, SlV gz nz cz⟩)
          clear H3
          unfold SlV
          go_wp2_with (refine wpList_store_row rfl 42 _ _ rfl (w.heap.size + 1) (Rc ⟨SlV gx nx cx, SlV gy2 ny cy2, SlV gz nz cz⟩) rfl rfl 42 _ KR (info_Rc _) rfl one3 ?_)
          exact bodyPost_ret (results_cell_tmp rfl _ _ _ 42 _ (0, 0) _ _ rfl (KR.row _) Tryd.underlying42 rfl (info_Rc _) rfl) rfl ⟨_, rfl, H9, below_setRow hB (by omega) _⟩
end Go.Proofs.YtjaomgildhiddaaDoor
/- The reference's Read: back if there is such a point, else none. -/
namespace Go.Proofs.YtjaomgildhiddaaDoor
open Go.RowKit
open Ed

theorem rt_zero {I w : Nat} (hI : IOk I) (hw : w < pp) (hs : rSquare w = true) (h : rt I w = 0) : w = 0 := by
  have h1 := rt_sq hI hw hs
  rw [h] at h1
  have : fm 0 0 = 0 := by unfold fm; rw [Nat.zero_mul, Nat.zero_mod]
  rw [this] at h1
  exact h1.symm
theorem rt1_zero : rt1 0 = 0 := mpow_zero_any _ (by decide)
theorem fm_zero : fm 0 0 = 0 := by unfold fm; rw [Nat.zero_mul, Nat.zero_mod]
theorem wrap_bit (q : Nat) (h : q < 2) : IntKind.u8.wrap (q : Int) = (q : Int) := by rw [IntKind.wrap_u8]; omega
theorem and_bit (X : Nat) : bits .and .u32 ((X % 65536 : Nat) : Int) 1 = ((X % 2 : Nat) : Int) := by
  rw [and1_32 _ (by omega) (by omega)]
  omega
theorem fs_fneg (x : Nat) : fs 0 x = fneg x := by unfold fs fneg; rw [Nat.zero_add]
theorem ris_of {X M : Nat} {P : Pt dd} (hx : F X = P.x) (hy : F M = P.y) (W : World) (a b c : Value) (ha : LongIs W a X) (hb : LongIs W b M) (hc : LongIs W c 1) : RIs W ⟨a, b, c⟩ P :=
  ⟨X, M, 1, ha, hb, hc, ok.one, by rw [F_one, Fin.one_mul, hx], by rw [F_one, Fin.one_mul, hy]⟩
theorem and7x (x : Int) (h0 : 0 ≤ x) (h1 : x < 256) : bits .and .u8 x 127 = x % 128 := by
  obtain ⟨n, rfl⟩ := Int.eq_ofNat_of_zero_le h0
  have h := u8_and_nat n 127 (by omega) (by omega)
  have e : n &&& 127 = n % 128 := Nat.and_two_pow_sub_one_eq_mod n 7
  rw [e] at h
  exact h
/-- What is known of 32 bytes ahead of the walk. -/
structure Bk (N M b bv o : Nat) : Prop where
  hM : M < p256
  hb : byteAt N 31 = b
  ho : ((b : Nat) : Int) / 128 = (o : Int)
  v : bits .and .u8 (b : Int) 127 = (bv : Int)
  l : (keyOf N).set 31 (bv : Int) = keyOf M
  eM : N % 57896044618658097711785492504343953926634992332820282019728792003956564819968 = M
  eo : N / 57896044618658097711785492504343953926634992332820282019728792003956564819968 = o
  o2 : o < 2
theorem bk_of (N : Nat) (hN : N < p256) : ∃ M b bv o, Bk N M b bv o := by
  have h1 := byteAt_top N hN
  have h2 := (keyOf_bytes N).lt 31
  have h3 : byteAt N 31 < 256 := h2
  refine ⟨N % 57896044618658097711785492504343953926634992332820282019728792003956564819968, byteAt N 31, byteAt N 31 % 128, N / 57896044618658097711785492504343953926634992332820282019728792003956564819968, ?_, rfl, ?_, ?_, key_cut N, rfl, rfl, ?_⟩
  · unfold p256 at *
    omega
  · rw [← h1]
    omega
  · rw [and7x _ (by omega) (by omega)]
    omega
  · unfold p256 at hN
    omega
theorem rread_some (N : Nat) (hN : N < p256) (P : Pt dd) (hP : textN P = N) (w : World) :
    Calls Tryd.prog 16 #[Key (keyOf N)] w fun e w' => ∃ r : R3, e = .returned (.tuple #[RW r, .bool true]) ∧ RIs w' r P ∧ Below w.heap.size w w' := by
  obtain ⟨M, b, bv, o, k⟩ := bk_of N hN
  obtain ⟨I, hI⟩ := has_I
  have hy := ptn_y hP
  rw [k.eM] at hy
  have lM : M < pp := by rw [← hy]; exact P.y.isLt
  have hsq := rSquare_pt P hy
  have hon := rt_on (Y := M) hI hsq
  have lx := rt_lt I (wNum M)
  have hpick := some_pt (x := rt I (wNum M)) hN k.eM lM lx hon
  rw [k.eo] at hpick
  have hodd := fun h => none_odd (N := N) (Y := M) k.eM h
  rw [k.eo] at hodd
  have hzero := rt_zero hI (wNum_lt M) hsq
  have hlt := decide_eq_true lM
  have o2 := k.o2
  have uq : ∀ P' : Pt dd, textN P' = N → P' = P := fun P' e => textN_inj P' P (e.trans hP.symm)
  obtain ⟨WN, hWN⟩ : ∃ W, W = wNum M := ⟨_, rfl⟩
  rw [← hWN] at hsq hon lx hpick hzero
  obtain ⟨X1, hX1⟩ : ∃ X, X = rt1 WN := ⟨_, rfl⟩
  have lX1 : X1 < pp := by rw [hX1]; exact mpow_lt _ _
  by_cases c1 : fm X1 X1 = WN
  · have er : rt I WN = X1 := by unfold rt; rw [← hX1, if_pos c1]
    rw [er] at hon hpick
    by_cases z : X1 = 0
    · have ho : o = 0 := by
        by_cases h1 : o = 1
        · exact absurd hP (hodd (by rw [← z]; exact hon) h1 P)
        · omega
      obtain ⟨P', e1, e2, e3⟩ := hpick (fun h => by omega)
      rw [uq P' e1] at e2 e3
      have ep : pick X1 o = X1 := by unfold pick; rw [z, ho]; rfl
      rw [ep] at e2
      exact rread_1T2 N M b bv o w k.hM k.hb k.ho k.v k.l hlt WN X1 hWN hsq hX1 (decide_eq_true c1) lX1 (decide_eq_true z) (by omega) (X1 % 65536) rfl (by rw [and_bit, z, ho]) (wrap_bit o o2) (by omega) P (ris_of e2 e3)
    · obtain ⟨P', e1, e2, e3⟩ := hpick (fun h => z h.1)
      rw [uq P' e1] at e2 e3
      by_cases hp : X1 % 2 = o
      · have ep : pick X1 o = X1 := by unfold pick; rw [if_pos hp]
        rw [ep] at e2
        exact rread_1T3 N M b bv o w k.hM k.hb k.ho k.v k.l hlt WN X1 hWN hsq hX1 (decide_eq_true c1) lX1 (decide_eq_false z) (X1 % 65536) rfl (by rw [and_bit, hp]) (wrap_bit o o2) (by omega) P (ris_of e2 e3)
      · have ep : pick X1 o = fs 0 X1 := by rw [fs_fneg]; unfold pick; rw [if_neg hp]
        rw [ep] at e2
        exact rread_1T4 N M b bv o w k.hM k.hb k.ho k.v k.l hlt WN X1 hWN hsq hX1 (decide_eq_true c1) lX1 (decide_eq_false z) (X1 % 65536) (X1 % 2) rfl (and_bit X1) (wrap_bit _ (by omega)) (by omega) P (ris_of e2 e3)
  · have er : rt I WN = fm X1 I := by unfold rt; rw [← hX1, if_neg c1]
    rw [er] at hon hpick lx hzero
    obtain ⟨X2, hX2⟩ : ∃ X, X = fm X1 I := ⟨_, rfl⟩
    rw [← hX2] at hon hpick lx hzero
    have z : ¬ X2 = 0 := fun h => c1 (by
      have h0 := hzero h
      rw [hX1, h0, rt1_zero, fm_zero])
    obtain ⟨P', e1, e2, e3⟩ := hpick (fun h => z h.1)
    rw [uq P' e1] at e2 e3
    by_cases hp : X2 % 2 = o
    · have ep : pick X2 o = X2 := by unfold pick; rw [if_pos hp]
      rw [ep] at e2
      exact rread_2T3 N M b bv o w k.hM k.hb k.ho k.v k.l hlt WN X1 hWN hsq hX1 (decide_eq_false c1) lX1 I X2 hI.val hX2 lx (decide_eq_false z) (X2 % 65536) rfl (by rw [and_bit, hp]) (wrap_bit o o2) (by omega) P (ris_of e2 e3)
    · have ep : pick X2 o = fs 0 X2 := by rw [fs_fneg]; unfold pick; rw [if_neg hp]
      rw [ep] at e2
      exact rread_2T4 N M b bv o w k.hM k.hb k.ho k.v k.l hlt WN X1 hWN hsq hX1 (decide_eq_false c1) lX1 I X2 hI.val hX2 lx (decide_eq_false z) (X2 % 65536) (X2 % 2) rfl (and_bit X2) (wrap_bit _ (by omega)) (by omega) P (ris_of e2 e3)
theorem rread_none (N : Nat) (hN : N < p256) (hP : ∀ P : Pt dd, textN P ≠ N) (w : World) :
    Calls Tryd.prog 16 #[Key (keyOf N)] w fun e w' => e = .returned (.tuple #[.agg zR, .bool false]) ∧ Below w.heap.size w w' := by
  obtain ⟨M, b, bv, o, k⟩ := bk_of N hN
  obtain ⟨I, hI⟩ := has_I
  by_cases lM : M < pp
  · by_cases hsq : rSquare (wNum M) = true
    · have hon := rt_on (Y := M) hI hsq
      have lx := rt_lt I (wNum M)
      have hpick := some_pt (x := rt I (wNum M)) hN k.eM lM lx hon
      rw [k.eo] at hpick
      have hzero := rt_zero hI (wNum_lt M) hsq
      have hz : rt I (wNum M) = 0 ∧ o = 1 := by
        by_cases h : rt I (wNum M) = 0 ∧ o = 1
        · exact h
        · obtain ⟨P, e, _⟩ := hpick h
          exact absurd e (hP P)
      have h0 := hzero hz.1
      have h1 : rt1 (wNum M) = 0 := by rw [h0]; exact rt1_zero
      refine rread_1T1 N M b bv o w k.hM k.hb k.ho k.v k.l (decide_eq_true lM) (wNum M) (rt1 (wNum M)) rfl hsq rfl (decide_eq_true ?_) (mpow_lt _ _) (decide_eq_true h1) (by rw [hz.2]; rfl)
      rw [h1, h0, fm_zero]
    · have hf : rSquare (wNum M) = false := by
        cases h : rSquare (wNum M) with
        | true => exact absurd h hsq
        | false => rfl
      exact rread_B N M b bv o w k.hM k.hb k.ho k.v k.l (decide_eq_true lM) (wNum M) rfl hf
  · exact rread_A N M b bv o w k.hM k.hb k.ho k.v k.l (decide_eq_false lM)
end Go.Proofs.YtjaomgildhiddaaDoor
/- The contracts of the reference's Base and of the laws' pair (printed by gencurve.py). -/
namespace Go.Proofs.YtjaomgildhiddaaDoor
open Go.RowKit

open Ed
theorem base_num (a b U E : Nat) (ha : a = 4) (hb : b = 5) (hU : U = mpow b 57896044618658097711785492504343953926634992332820282019728792003956564819947) (hE : E = a * U % pp) : E = byN := by
  have l5 : b < pp := by rw [hb, pp_eq]; decide
  have n5 : F b ≠ 0 := by rw [hb]; decide +kernel
  have h1 := finv_mul _ n5
  have e1 : E = fm a (pinv b) := by rw [hE, hU]; rfl
  have e2 : F b * F byN = F a := by rw [ha, hb]; decide +kernel
  rw [e1]
  refine F_inj2 (fm_lt _ _) byN_lt ?_
  rw [F_fm, F_inv _ l5, ← e2]
  clear hU hE e1 e2 ha hb l5
  generalize F b = x at *
  generalize finv x = u at *
  generalize F byN = y at *
  rw [Fin.mul_assoc, Fin.mul_comm y u, ← Fin.mul_assoc, h1, Fin.one_mul]
theorem byN_256 : byN < p256 := Nat.lt_trans byN_lt pp_lt256
set_option maxHeartbeats 4000000 in
set_option maxRecDepth 100000 in
theorem rbase_v (w : World) : Calls Tryd.prog 49 #[] w fun e w' => ∃ r : R3, e = .returned (RW r) ∧ RIs w' r bb ∧ Below w.heap.size w w' := by
  obtain ⟨E0, hE0⟩ : ∃ r, r = 4 := ⟨_, rfl⟩
  have lE0 : E0 < pp := hE0 ▸ by rw [pp_eq]; decide
  have HE0 := Lib.hid hE0
  clear hE0
  obtain ⟨E1, hE1⟩ : ∃ r, r = 5 := ⟨_, rfl⟩
  have lE1 : E1 < pp := hE1 ▸ by rw [pp_eq]; decide
  have HE1 := Lib.hid hE1
  clear hE1
  obtain ⟨E2, hE2⟩ : ∃ r, r = mpow E1 57896044618658097711785492504343953926634992332820282019728792003956564819947 := ⟨_, rfl⟩
  have lE2 : E2 < pp := hE2 ▸ mpow_lt _ _
  have HE2 := Lib.hid hE2
  clear hE2
  obtain ⟨E3, hE3⟩ : ∃ r, r = E0 * E2 % pp := ⟨_, rfl⟩
  have lE3 : E3 < pp := hE3 ▸ Nat.mod_lt _ pp_pos
  have HE3 := Lib.hid hE3
  clear hE3
  go_enter Tryd.func49, Tryd.ntmps49
  go_upto_region 1 with fail
  generalize hW : World.alloc w _ = W
  have hB : Below w.heap.size w W := hW ▸ (Below.refl w.heap.size w).alloc (Nat.le_refl _) _
  have K0 : Blk W (w.heap.size) 42 zR := hW ▸ Blk.new' rfl _ _
  have hS : Facts [] W := Facts.nil
  clear hW
  refine wp_region_seq ?_
  refine wpSeq_wp rfl ?_
  go_simp
  refine (num_w 4 E0 (by decide) HE0.out _).mono ?_
  rintro e v1 ⟨r1, rfl, Hr1, b⟩
  replace hB := hB.trans (b.mono hB.size)
  replace hS := hS.below b
  replace K0 := K0.below' b
  clear b
  show wpSeq _ _ _ _ _ _
  refine wpSeq_wp rfl ?_
  go_simp
  refine (num_w 5 E1 (by decide) HE1.out _).mono ?_
  rintro e v2 ⟨r2, rfl, Hr2, b⟩
  replace hB := hB.trans (b.mono hB.size)
  replace hS := hS.below b
  replace Hr1 := Hr1.below b
  replace K0 := K0.below' b
  clear b
  show wpSeq _ _ _ _ _ _
  refine wpSeq_wp rfl ?_
  go_simp
  refine (rover_v _ E1 E2 _ Hr2 HE2.out).mono ?_
  rintro e v3 ⟨r3, rfl, Hr3, b⟩
  replace hB := hB.trans (b.mono hB.size)
  replace hS := hS.below b
  replace Hr1 := Hr1.below b
  replace Hr2 := Hr2.below b
  replace K0 := K0.below' b
  clear b
  show wpSeq _ _ _ _ _ _
  refine wpSeq_wp rfl ?_
  go_simp
  refine (rmul_v _ _ E0 E2 E3 _ Hr1 Hr3 HE3.out).mono ?_
  rintro e v4 ⟨r4, rfl, Hr4, b⟩
  replace hB := hB.trans (b.mono hB.size)
  replace hS := hS.below b
  replace Hr1 := Hr1.below b
  replace Hr2 := Hr2.below b
  replace Hr3 := Hr3.below b
  replace K0 := K0.below' b
  clear b
  show wpSeq _ _ _ _ _ _
  have hby := base_num E0 E1 E2 E3 HE0.out HE1.out HE2.out HE3.out
  rw [hby] at Hr4
  refine wpSeq_wp rfl ?_
  go_simp
  refine (rkey_v _ byN _ Hr4).mono ?_
  rintro e v5 ⟨rfl, b⟩
  replace hB := hB.trans (b.mono hB.size)
  replace hS := hS.below b
  replace Hr1 := Hr1.below b
  replace Hr2 := Hr2.below b
  replace Hr3 := Hr3.below b
  replace Hr4 := Hr4.below b
  replace K0 := K0.below' b
  clear b
  show wpSeq _ _ _ _ _ _
  refine wpSeq_wp rfl ?_
  go_simp
  refine (rread_some byN byN_256 bb text_base.symm _).mono ?_
  rintro e v6 ⟨r6, rfl, Hr6n, b⟩
  replace hB := hB.trans (b.mono hB.size)
  replace hS := hS.below b
  replace Hr1 := Hr1.below b
  replace Hr2 := Hr2.below b
  replace Hr3 := Hr3.below b
  replace Hr4 := Hr4.below b
  replace K0 := K0.below' b
  clear b
  have Hr6 := Hr6n
  clear Hr6n
  show wpSeq _ _ _ _ _ _
  refine wpSeq_yield (S := Facts []) (yieldsIf_move rfl _ rfl (.tuple #[(RW r6), (.bool true)]) rfl) hS ?_
  simp only [Act.put, List.setIfInBounds_toArray, List.set_cons_zero, List.set_cons_succ]
  refine wpSeq_yield (S := Facts []) (show YieldsIf _ _ _ _ (RW r6) _ from yieldsIf_extract rfl _ _ rfl _ rfl _ rfl) hS ?_
  simp only [Act.put, List.setIfInBounds_toArray, List.set_cons_zero, List.set_cons_succ]
  refine wpSeq_yield (S := Facts []) (show YieldsIf _ _ _ _ (.bool true) _ from yieldsIf_extract rfl _ _ rfl _ rfl _ rfl) hS ?_
  simp only [Act.put, List.setIfInBounds_toArray, List.set_cons_zero, List.set_cons_succ]
  refine wpSeq_allocQ 42 zR rfl (fun W => by go_simp; rfl) ?_
  intro B1 C1 AB1 b mB1
  simp only [Act.put, List.setIfInBounds_toArray, List.set_cons_zero, List.set_cons_succ]
  have hb := b
  clear b
  refine wpSeq_store_row rfl 42 _ _ rfl (B1) (Rc r6) rfl rfl _ _ AB1 (info_Rc _) rfl Hr6.one ?_
  try simp only [Act.put, List.setIfInBounds_toArray, List.set_cons_zero, List.set_cons_succ]
  replace AB1 := AB1.row (Rc r6)
  replace hb := below_setRow hb mB1 (Rc r6)
  generalize hWn : World.setRow _ _ _ = Wn at *
  clear hWn
  have uB1_K0 := Nat.lt_of_lt_of_le K0.lt mB1
  replace mB1 := Nat.le_trans hB.size mB1
  replace hB := hB.trans (hb.mono hB.size)
  replace hS := hS.below hb
  replace Hr1 := Hr1.below hb
  replace Hr2 := Hr2.below hb
  replace Hr3 := Hr3.below hb
  replace Hr4 := Hr4.below hb
  replace Hr6 := Hr6.below hb
  replace K0 := K0.below' hb
  clear hb
  replace hS : Facts [.blk (B1) 42 (Rc r6)] _ := Facts.cons (f := .blk B1 42 (Rc r6)) AB1 hS
  clear AB1
  refine wpSeq_yield (S := Facts [.blk (B1) 42 (Rc r6)]) (yieldsIf_assign rfl _ rfl (.bool true) rfl) hS ?_
  simp only [Act.put, List.setIfInBounds_toArray, List.set_cons_zero, List.set_cons_succ]
  refine wpSeq_nil ?_
  clear Hr1 Hr2 Hr3 Hr4
  go_upto_region 2 with fail
  refine wp_region_seq ?_
  refine wpSeq_yield (S := Facts [.blk (B1) 42 (Rc r6)]) (show YieldsIf _ _ _ _ (RW r6) _ from yieldsIf_load rfl 42 _ rfl (B1) rfl 42 _ _ (.head _) Tryd.underlying42 rfl (info_Rc _)) hS ?_
  simp only [Act.put, List.setIfInBounds_toArray, List.set_cons_zero, List.set_cons_succ]
  refine wpSeq_store_row rfl 42 _ _ rfl (w.heap.size) (Rc r6) rfl rfl _ _ K0 (info_Rc _) rfl Hr6.one ?_
  try simp only [Act.put, List.setIfInBounds_toArray, List.set_cons_zero, List.set_cons_succ]
  replace Hr6 := Hr6.away K0 zR_not32 (Rc r6)
  replace hB := below_setRow hB (g := w.heap.size) (by omega) (Rc r6)
  replace hS : Facts [.blk (B1) 42 (Rc r6)] _ := Facts.cons (f := .blk (B1) 42 (Rc r6)) ((hS.blkAt (B1) 42 (Rc r6) (.head _)).rowFar (k := w.heap.size) (by omega) (Rc r6)) (Facts.nil)
  replace K0 := K0.row (Rc r6)
  generalize hWn : World.setRow _ _ _ = Wn at *
  clear hWn
  refine wpSeq_nil ?_
  go_wp2
  exact bodyPost_ret (results_cell_row rfl _ _ _ 42 _ (0, 0) _ rfl K0 Tryd.underlying42 rfl (info_Rc _)) rfl ⟨_, rfl, Hr6, hB⟩
theorem results_two2 {P : Program} {fn : Func} {p q : Tmp} {ty ty2 : TypeId} (h : fn.results = #[.cell p ty, .cell q ty2]) (tmps : Array Value) (w : World) (g k : Nat) (t t2 : TypeId) (cs ds : Array Value) (d d2 : TypeDesc)
    (hp : tmps.getD p undef = .pointer (some ⟨g, 0, none⟩)) (hq : tmps.getD q undef = .pointer (some ⟨k, 0, none⟩)) (hg : Blk w g t cs) (hk : Blk w k t2 ds)
    (hu : P.underlying ty = some d) (hu2 : P.underlying ty2 = some d2) (hd : (match d with | .struct _ | .array _ _ => true | _ => false) = true) (hd2 : (match d2 with | .struct _ | .array _ _ => true | _ => false) = true) (hi : (P.info? ty).map (·.size) = some cs.size) (hi2 : (P.info? ty2).map (·.size) = some ds.size) :
    (results fn tmps).run P w = .ok (.tuple #[.agg cs, .agg ds]) w := by
  have hp' : tmps[p]?.getD undef = .pointer (some ⟨g, 0, none⟩) := by simpa using hp
  have hq' : tmps[q]?.getD undef = .pointer (some ⟨k, 0, none⟩) := by simpa using hq
  simp [results, h, hp', hq', asAddr, run_loadVar_row w g t ty cs (0, 0) d hg hu hd hi, run_loadVar_row w k t2 ty2 ds (0, 0) d2 hk hu2 hd2 hi2, Sem.run_bind]
set_option maxHeartbeats 4000000 in
set_option maxRecDepth 100000 in
theorem pair_c0 (N b : Nat) (kN : N < p256) (hb : byteAt N 0 = b) (m : Nat) (h4 : ((b : Nat) : Int).tmod 4 = (m : Int)) (hm : ¬ (m : Int) = 0) (w : World) (GX : Rng w 0 (Iv .u8 (keyOf bxN))) (GY : Rng w 1 (Iv .u8 (keyOf byN))) (GD : Rng w 2 (Iv .u8 (keyOf dN))) :
    Calls Tryd.prog 19 #[Key (keyOf N)] w fun e w' => ∃ (p : P4) (r : R3) (P : Pt dd), e = .returned (.tuple #[PV p, RW r]) ∧ p.Is P ∧ RIs w' r P ∧ Below w.heap.size w w' := by
  have bGX := GX.blk
  have bGY := GY.blk
  have bGD := GD.blk
  have ipbase := pbase_is
  have ipzero := pzero_is
  have HB := Lib.hid hb
  have H4 := Lib.hid h4
  clear hb h4
  have HM := Lib.hid hm
  clear hm
  unfold Key
  go_enter Tryd.func19, Tryd.ntmps19
  go_upto_region 1 with fail
  generalize hW : World.alloc (World.alloc (World.alloc w _) _) _ = W
  have hB : Below w.heap.size w W := hW ▸ (((Below.refl w.heap.size w).alloc (Nat.le_refl _) _).alloc (by simp) _).alloc (by simp; omega) _
  have K0 : Blk W (w.heap.size) 23 (Iv .u8 (keyOf N)) := hW ▸ (((Blk.new' (by simp) _ _).alloc _).alloc _)
  have K1 : Blk W (w.heap.size + 1) 38 (Pc p40) := hW ▸ ((Blk.new' (by simp) _ _).alloc _)
  have K2 : Blk W (w.heap.size + 1 + 1) 42 zR := hW ▸ (Blk.new' (by simp) _ _)
  have hS : Facts [.blk (w.heap.size) 23 (Iv .u8 (keyOf N)), .rng 0 (Iv .u8 (keyOf bxN)), .rng 1 (Iv .u8 (keyOf byN)), .rng 2 (Iv .u8 (keyOf dN))] W := Facts.cons (f := .blk (w.heap.size) 23 (Iv .u8 (keyOf N))) K0 (Facts.cons (f := .rng 0 (Iv .u8 (keyOf bxN))) (GX.below hB) (Facts.cons (f := .rng 1 (Iv .u8 (keyOf byN))) (GY.below hB) (Facts.cons (f := .rng 2 (Iv .u8 (keyOf dN))) (GD.below hB) (Facts.nil))))
  clear hW K0
  have KB := hS.blkAt (w.heap.size) 23 (Iv .u8 (keyOf N)) (.head _)
  have c0 := key_cellj KB 0 (by decide)
  rw [HB.out] at c0
  have h4 := H4.out
  have hm := HM.out
  go_upto_region 6 with fail
  clear c0 h4 hm KB
  replace hS := hS.drew
  replace hB := below_drew hB
  replace K1 := K1.drew
  replace K2 := K2.drew
  refine wp_region_Z (S := Facts [.blk (w.heap.size) 23 (Iv .u8 (keyOf N)), .rng 0 (Iv .u8 (keyOf bxN)), .rng 1 (Iv .u8 (keyOf byN)), .rng 2 (Iv .u8 (keyOf dN))]) 7 (by kernel_rfl) ?_
  refine wpAnyZ_takeL 0 rfl (by kernel_rfl) (by kernel_rfl) (by kernel_rfl) (by kernel_rfl) (by kernel_rfl) (fun _ _ _ h => h) (show YieldsIf _ _ _ _ (Key (keyOf N)) _ from yieldsIf_load rfl 23 _ rfl (w.heap.size) rfl 23 _ _ (.head _) Tryd.underlying23 rfl (info_key _ (keyOf_length _))) hS ?_
  simp only [Act.put, List.setIfInBounds_toArray, List.set_cons_zero, List.set_cons_succ]
  refine wpAnyZ_takeL 3 rfl (by kernel_rfl) (by kernel_rfl) (by kernel_rfl) (by kernel_rfl) (by kernel_rfl) (fun _ _ _ h => h) (show YieldsIf _ _ _ _ (Key (keyOf N)) _ from yieldsIf_load rfl 23 _ rfl (w.heap.size) rfl 23 _ _ (.head _) Tryd.underlying23 rfl (info_key _ (keyOf_length _))) hS ?_
  simp only [Act.put, List.setIfInBounds_toArray, List.set_cons_zero, List.set_cons_succ]
  refine wpAnyZ_one (i := 1) (by kernel_rfl) ?_
  unfold wpOp
  go_simp
  left
  refine (cbase_v _ (hS.rngAt _ _ (.tail _ (.head _))) (hS.rngAt _ _ (.tail _ (.tail _ (.head _))))).mono ?_
  rintro e v1 ⟨rfl, b⟩
  replace hB := hB.trans (b.mono hB.size)
  replace hS := hS.below b
  replace K1 := K1.below' b
  replace K2 := K2.below' b
  clear b
  refine ⟨hS, ?_⟩
  obtain ⟨q0, hq0⟩ : ∃ q : P4, q = pmul N pbase 256 := ⟨_, rfl⟩
  have iq0 : q0.Is (times ok N bb) := by rw [hq0]; exact pmul_is256 N kN ipbase
  have Hq0 := Lib.hid hq0
  clear hq0
  refine wpAnyZ_one (i := 2) (by kernel_rfl) ?_
  unfold wpOp
  go_simp
  left
  refine (mul_d N pbase q0 kN ipbase.ok Hq0.out _ (hS.rngAt _ _ (.tail _ (.tail _ (.tail _ (.head _)))))).mono ?_
  rintro e v2 ⟨rfl, b⟩
  replace hB := hB.trans (b.mono hB.size)
  replace hS := hS.below b
  replace K1 := K1.below' b
  replace K2 := K2.below' b
  clear b
  refine ⟨hS, ?_⟩
  refine wpAnyZ_one (i := 4) (by kernel_rfl) ?_
  unfold wpOp
  go_simp
  left
  refine (rbase_v _).mono ?_
  rintro e v3 ⟨r3, rfl, Hr3n, b⟩
  replace hB := hB.trans (b.mono hB.size)
  replace hS := hS.below b
  replace K1 := K1.below' b
  replace K2 := K2.below' b
  clear b
  have Hr3 := Hr3n
  clear Hr3n
  refine ⟨hS, ?_⟩
  refine wpAnyZ_one (i := 5) (by kernel_rfl) ?_
  unfold wpOp
  go_simp
  left
  refine (roften_v N kN r3 bb _ Hr3).mono ?_
  rintro e v4 ⟨r4, rfl, Hr4n, b⟩
  replace hB := hB.trans (b.mono hB.size)
  replace hS := hS.below b
  replace Hr3 := Hr3.below b
  replace K1 := K1.below' b
  replace K2 := K2.below' b
  clear b
  have Hr4 := Hr4n
  clear Hr4n
  refine ⟨hS, ?_⟩
  refine wpAnyZ_store_row 6 rfl (by kernel_rfl) rfl _ _ _ rfl (w.heap.size + 1) (Pc q0) rfl rfl _ _ K1 (info_Pc _) (Pc_same _ _) (Pc_one _) (Facts.cons (f := .blk (w.heap.size) 23 (Iv .u8 (keyOf N))) ((hS.blkAt (w.heap.size) 23 (Iv .u8 (keyOf N)) (.head _)).rowFar (k := w.heap.size + 1) (blk_ne (hS.blkAt (w.heap.size) 23 (Iv .u8 (keyOf N)) (.head _)) K1 (by decide)) (Pc q0)) (Facts.cons (f := .rng 0 (Iv .u8 (keyOf bxN))) ((hS.rngAt _ _ (.tail _ (.head _))).rowFar (k := w.heap.size + 1) (by omega) (Pc q0)) (Facts.cons (f := .rng 1 (Iv .u8 (keyOf byN))) ((hS.rngAt _ _ (.tail _ (.tail _ (.head _)))).rowFar (k := w.heap.size + 1) (by omega) (Pc q0)) (Facts.cons (f := .rng 2 (Iv .u8 (keyOf dN))) ((hS.rngAt _ _ (.tail _ (.tail _ (.tail _ (.head _))))).rowFar (k := w.heap.size + 1) (by omega) (Pc q0)) (Facts.nil))))) ?_
  try simp only [Act.put, List.setIfInBounds_toArray, List.set_cons_zero, List.set_cons_succ]
  replace Hr3 := Hr3.away K1 (Pc_not32 _) (Pc q0)
  replace Hr4 := Hr4.away K1 (Pc_not32 _) (Pc q0)
  replace hB := below_setRow hB (g := w.heap.size + 1) (by omega) (Pc q0)
  replace hS : Facts [.blk (w.heap.size) 23 (Iv .u8 (keyOf N)), .rng 0 (Iv .u8 (keyOf bxN)), .rng 1 (Iv .u8 (keyOf byN)), .rng 2 (Iv .u8 (keyOf dN))] _ := Facts.cons (f := .blk (w.heap.size) 23 (Iv .u8 (keyOf N))) ((hS.blkAt (w.heap.size) 23 (Iv .u8 (keyOf N)) (.head _)).rowFar (k := w.heap.size + 1) (blk_ne (hS.blkAt (w.heap.size) 23 (Iv .u8 (keyOf N)) (.head _)) K1 (by decide)) (Pc q0)) (Facts.cons (f := .rng 0 (Iv .u8 (keyOf bxN))) ((hS.rngAt _ _ (.tail _ (.head _))).rowFar (k := w.heap.size + 1) (by omega) (Pc q0)) (Facts.cons (f := .rng 1 (Iv .u8 (keyOf byN))) ((hS.rngAt _ _ (.tail _ (.tail _ (.head _)))).rowFar (k := w.heap.size + 1) (by omega) (Pc q0)) (Facts.cons (f := .rng 2 (Iv .u8 (keyOf dN))) ((hS.rngAt _ _ (.tail _ (.tail _ (.tail _ (.head _))))).rowFar (k := w.heap.size + 1) (by omega) (Pc q0)) (Facts.nil))))
  replace K1 := K1.row (Pc q0)
  replace K2 := K2.rowFar (k := w.heap.size + 1) (by omega) (Pc q0)
  generalize hWn : World.setRow _ _ _ = Wn at *
  clear hWn
  refine wpAnyZ_store_end 7 rfl (by kernel_rfl) rfl _ _ _ rfl (w.heap.size + 1 + 1) (Rc r4) rfl rfl _ _ K2 (info_Rc _) rfl Hr4.one (by kernel_rfl) ?_
  try simp only [Act.put, List.setIfInBounds_toArray, List.set_cons_zero, List.set_cons_succ]
  replace Hr3 := Hr3.away K2 zR_not32 (Rc r4)
  replace Hr4 := Hr4.away K2 zR_not32 (Rc r4)
  replace hB := below_setRow hB (g := w.heap.size + 1 + 1) (by omega) (Rc r4)
  replace hS : Facts [.blk (w.heap.size) 23 (Iv .u8 (keyOf N)), .rng 0 (Iv .u8 (keyOf bxN)), .rng 1 (Iv .u8 (keyOf byN)), .rng 2 (Iv .u8 (keyOf dN))] _ := Facts.cons (f := .blk (w.heap.size) 23 (Iv .u8 (keyOf N))) ((hS.blkAt (w.heap.size) 23 (Iv .u8 (keyOf N)) (.head _)).rowFar (k := w.heap.size + 1 + 1) (blk_ne (hS.blkAt (w.heap.size) 23 (Iv .u8 (keyOf N)) (.head _)) K2 (by decide)) (Rc r4)) (Facts.cons (f := .rng 0 (Iv .u8 (keyOf bxN))) ((hS.rngAt _ _ (.tail _ (.head _))).rowFar (k := w.heap.size + 1 + 1) (by omega) (Rc r4)) (Facts.cons (f := .rng 1 (Iv .u8 (keyOf byN))) ((hS.rngAt _ _ (.tail _ (.tail _ (.head _)))).rowFar (k := w.heap.size + 1 + 1) (by omega) (Rc r4)) (Facts.cons (f := .rng 2 (Iv .u8 (keyOf dN))) ((hS.rngAt _ _ (.tail _ (.tail _ (.tail _ (.head _))))).rowFar (k := w.heap.size + 1 + 1) (by omega) (Rc r4)) (Facts.nil))))
  replace K1 := K1.rowFar (k := w.heap.size + 1 + 1) (by omega) (Rc r4)
  replace K2 := K2.row (Rc r4)
  generalize hWn : World.setRow _ _ _ = Wn at *
  clear hWn
  refine wpAnyZ_done (by kernel_rfl) ?_ _
  go_wp2
  exact bodyPost_ret (results_two2 rfl _ _ (w.heap.size + 1) (w.heap.size + 1 + 1) 38 42 _ _ _ _ rfl rfl K1 K2 Tryd.underlying38 Tryd.underlying42 rfl rfl (info_Pc _) (info_Rc _)) rfl ⟨_, _, (times ok N bb), rfl, iq0, Hr4, hB⟩
set_option maxHeartbeats 4000000 in
set_option maxRecDepth 100000 in
theorem pair_c1 (N b : Nat) (kN : N < p256) (hb : byteAt N 0 = b) (h4 : ((b : Nat) : Int).tmod 4 = 0) (P : Pt dd) (hP : textN P = N) (w : World) (GX : Rng w 0 (Iv .u8 (keyOf bxN))) (GY : Rng w 1 (Iv .u8 (keyOf byN))) (GD : Rng w 2 (Iv .u8 (keyOf dN))) :
    Calls Tryd.prog 19 #[Key (keyOf N)] w fun e w' => ∃ (p : P4) (r : R3) (P : Pt dd), e = .returned (.tuple #[PV p, RW r]) ∧ p.Is P ∧ RIs w' r P ∧ Below w.heap.size w w' := by
  have bGX := GX.blk
  have bGY := GY.blk
  have bGD := GD.blk
  have ipbase := pbase_is
  have ipzero := pzero_is
  have HB := Lib.hid hb
  have H4 := Lib.hid h4
  clear hb h4
  have HP := Lib.hid hP
  clear hP
  unfold Key
  go_enter Tryd.func19, Tryd.ntmps19
  go_upto_region 1 with fail
  generalize hW : World.alloc (World.alloc (World.alloc w _) _) _ = W
  have hB : Below w.heap.size w W := hW ▸ (((Below.refl w.heap.size w).alloc (Nat.le_refl _) _).alloc (by simp) _).alloc (by simp; omega) _
  have K0 : Blk W (w.heap.size) 23 (Iv .u8 (keyOf N)) := hW ▸ (((Blk.new' (by simp) _ _).alloc _).alloc _)
  have K1 : Blk W (w.heap.size + 1) 38 (Pc p40) := hW ▸ ((Blk.new' (by simp) _ _).alloc _)
  have K2 : Blk W (w.heap.size + 1 + 1) 42 zR := hW ▸ (Blk.new' (by simp) _ _)
  have hS : Facts [.blk (w.heap.size) 23 (Iv .u8 (keyOf N)), .rng 0 (Iv .u8 (keyOf bxN)), .rng 1 (Iv .u8 (keyOf byN)), .rng 2 (Iv .u8 (keyOf dN))] W := Facts.cons (f := .blk (w.heap.size) 23 (Iv .u8 (keyOf N))) K0 (Facts.cons (f := .rng 0 (Iv .u8 (keyOf bxN))) (GX.below hB) (Facts.cons (f := .rng 1 (Iv .u8 (keyOf byN))) (GY.below hB) (Facts.cons (f := .rng 2 (Iv .u8 (keyOf dN))) (GD.below hB) (Facts.nil))))
  clear hW K0
  have KB := hS.blkAt (w.heap.size) 23 (Iv .u8 (keyOf N)) (.head _)
  have c0 := key_cellj KB 0 (by decide)
  rw [HB.out] at c0
  have h4 := H4.out
  go_upto_region 2 with fail
  clear c0 h4 KB
  refine wp_region_seq ?_
  refine wpSeq_yield (S := Facts [.blk (w.heap.size) 23 (Iv .u8 (keyOf N)), .rng 0 (Iv .u8 (keyOf bxN)), .rng 1 (Iv .u8 (keyOf byN)), .rng 2 (Iv .u8 (keyOf dN))]) (show YieldsIf _ _ _ _ (Key (keyOf N)) _ from yieldsIf_load rfl 23 _ rfl (w.heap.size) rfl 23 _ _ (.head _) Tryd.underlying23 rfl (info_key _ (keyOf_length _))) hS ?_
  simp only [Act.put, List.setIfInBounds_toArray, List.set_cons_zero, List.set_cons_succ]
  refine wpSeq_wp rfl ?_
  go_simp
  refine (cdec_some N kN P HP.out _).mono ?_
  rintro e v1 ⟨p1, rfl, ip1, b⟩
  replace hB := hB.trans (b.mono hB.size)
  replace hS := hS.below b
  replace K1 := K1.below' b
  replace K2 := K2.below' b
  clear b
  show wpSeq _ _ _ _ _ _
  refine wpSeq_yield (S := Facts [.blk (w.heap.size) 23 (Iv .u8 (keyOf N)), .rng 0 (Iv .u8 (keyOf bxN)), .rng 1 (Iv .u8 (keyOf byN)), .rng 2 (Iv .u8 (keyOf dN))]) (yieldsIf_move rfl _ rfl (.tuple #[(PV p1), (.bool true)]) rfl) hS ?_
  simp only [Act.put, List.setIfInBounds_toArray, List.set_cons_zero, List.set_cons_succ]
  refine wpSeq_yield (S := Facts [.blk (w.heap.size) 23 (Iv .u8 (keyOf N)), .rng 0 (Iv .u8 (keyOf bxN)), .rng 1 (Iv .u8 (keyOf byN)), .rng 2 (Iv .u8 (keyOf dN))]) (show YieldsIf _ _ _ _ (PV p1) _ from yieldsIf_extract rfl _ _ rfl _ rfl _ rfl) hS ?_
  simp only [Act.put, List.setIfInBounds_toArray, List.set_cons_zero, List.set_cons_succ]
  refine wpSeq_yield (S := Facts [.blk (w.heap.size) 23 (Iv .u8 (keyOf N)), .rng 0 (Iv .u8 (keyOf bxN)), .rng 1 (Iv .u8 (keyOf byN)), .rng 2 (Iv .u8 (keyOf dN))]) (show YieldsIf _ _ _ _ (.bool true) _ from yieldsIf_extract rfl _ _ rfl _ rfl _ rfl) hS ?_
  simp only [Act.put, List.setIfInBounds_toArray, List.set_cons_zero, List.set_cons_succ]
  refine wpSeq_allocQ 38 (Pc p40) rfl (fun W => by go_simp; rfl) ?_
  intro B1 C1 AB1 b mB1
  simp only [Act.put, List.setIfInBounds_toArray, List.set_cons_zero, List.set_cons_succ]
  have hb := b
  clear b
  refine wpSeq_store_row rfl 38 _ _ rfl (B1) (Pc p1) rfl rfl _ _ AB1 (info_Pc _) (Pc_same _ _) (Pc_one _) ?_
  try simp only [Act.put, List.setIfInBounds_toArray, List.set_cons_zero, List.set_cons_succ]
  replace AB1 := AB1.row (Pc p1)
  replace hb := below_setRow hb mB1 (Pc p1)
  generalize hWn : World.setRow _ _ _ = Wn at *
  clear hWn
  have uB1_K1 := Nat.lt_of_lt_of_le K1.lt mB1
  have uB1_K2 := Nat.lt_of_lt_of_le K2.lt mB1
  replace mB1 := Nat.le_trans hB.size mB1
  replace hB := hB.trans (hb.mono hB.size)
  replace hS := hS.below hb
  replace K1 := K1.below' hb
  replace K2 := K2.below' hb
  clear hb
  replace hS : Facts [.blk (B1) 38 (Pc p1), .blk (w.heap.size) 23 (Iv .u8 (keyOf N)), .rng 0 (Iv .u8 (keyOf bxN)), .rng 1 (Iv .u8 (keyOf byN)), .rng 2 (Iv .u8 (keyOf dN))] _ := Facts.cons (f := .blk B1 38 (Pc p1)) AB1 hS
  clear AB1
  refine wpSeq_yield (S := Facts [.blk (B1) 38 (Pc p1), .blk (w.heap.size) 23 (Iv .u8 (keyOf N)), .rng 0 (Iv .u8 (keyOf bxN)), .rng 1 (Iv .u8 (keyOf byN)), .rng 2 (Iv .u8 (keyOf dN))]) (yieldsIf_assign rfl _ rfl (.bool true) rfl) hS ?_
  simp only [Act.put, List.setIfInBounds_toArray, List.set_cons_zero, List.set_cons_succ]
  refine wpSeq_nil ?_
  go_upto_region 3 with fail
  refine wp_region_seq ?_
  refine wpSeq_yield (S := Facts [.blk (B1) 38 (Pc p1), .blk (w.heap.size) 23 (Iv .u8 (keyOf N)), .rng 0 (Iv .u8 (keyOf bxN)), .rng 1 (Iv .u8 (keyOf byN)), .rng 2 (Iv .u8 (keyOf dN))]) (show YieldsIf _ _ _ _ (Key (keyOf N)) _ from yieldsIf_load rfl 23 _ rfl (w.heap.size) rfl 23 _ _ (.tail _ (.head _)) Tryd.underlying23 rfl (info_key _ (keyOf_length _))) hS ?_
  simp only [Act.put, List.setIfInBounds_toArray, List.set_cons_zero, List.set_cons_succ]
  refine wpSeq_wp rfl ?_
  go_simp
  refine (rread_some N kN P HP.out _).mono ?_
  rintro e v2 ⟨r2, rfl, Hr2n, b⟩
  replace hB := hB.trans (b.mono hB.size)
  replace hS := hS.below b
  replace K1 := K1.below' b
  replace K2 := K2.below' b
  clear b
  have Hr2 := Hr2n
  clear Hr2n
  show wpSeq _ _ _ _ _ _
  refine wpSeq_yield (S := Facts [.blk (B1) 38 (Pc p1), .blk (w.heap.size) 23 (Iv .u8 (keyOf N)), .rng 0 (Iv .u8 (keyOf bxN)), .rng 1 (Iv .u8 (keyOf byN)), .rng 2 (Iv .u8 (keyOf dN))]) (yieldsIf_move rfl _ rfl (.tuple #[(RW r2), (.bool true)]) rfl) hS ?_
  simp only [Act.put, List.setIfInBounds_toArray, List.set_cons_zero, List.set_cons_succ]
  refine wpSeq_yield (S := Facts [.blk (B1) 38 (Pc p1), .blk (w.heap.size) 23 (Iv .u8 (keyOf N)), .rng 0 (Iv .u8 (keyOf bxN)), .rng 1 (Iv .u8 (keyOf byN)), .rng 2 (Iv .u8 (keyOf dN))]) (show YieldsIf _ _ _ _ (RW r2) _ from yieldsIf_extract rfl _ _ rfl _ rfl _ rfl) hS ?_
  simp only [Act.put, List.setIfInBounds_toArray, List.set_cons_zero, List.set_cons_succ]
  refine wpSeq_yield (S := Facts [.blk (B1) 38 (Pc p1), .blk (w.heap.size) 23 (Iv .u8 (keyOf N)), .rng 0 (Iv .u8 (keyOf bxN)), .rng 1 (Iv .u8 (keyOf byN)), .rng 2 (Iv .u8 (keyOf dN))]) (show YieldsIf _ _ _ _ (.bool true) _ from yieldsIf_extract rfl _ _ rfl _ rfl _ rfl) hS ?_
  simp only [Act.put, List.setIfInBounds_toArray, List.set_cons_zero, List.set_cons_succ]
  refine wpSeq_allocQ 42 zR rfl (fun W => by go_simp; rfl) ?_
  intro B2 C2 AB2 b mB2
  simp only [Act.put, List.setIfInBounds_toArray, List.set_cons_zero, List.set_cons_succ]
  have hb := b
  clear b
  refine wpSeq_store_row rfl 42 _ _ rfl (B2) (Rc r2) rfl rfl _ _ AB2 (info_Rc _) rfl Hr2.one ?_
  try simp only [Act.put, List.setIfInBounds_toArray, List.set_cons_zero, List.set_cons_succ]
  replace AB2 := AB2.row (Rc r2)
  replace hb := below_setRow hb mB2 (Rc r2)
  generalize hWn : World.setRow _ _ _ = Wn at *
  clear hWn
  have uB2_K1 := Nat.lt_of_lt_of_le K1.lt mB2
  have uB2_K2 := Nat.lt_of_lt_of_le K2.lt mB2
  replace mB2 := Nat.le_trans hB.size mB2
  replace hB := hB.trans (hb.mono hB.size)
  replace hS := hS.below hb
  replace Hr2 := Hr2.below hb
  replace K1 := K1.below' hb
  replace K2 := K2.below' hb
  clear hb
  replace hS : Facts [.blk (B2) 42 (Rc r2), .blk (B1) 38 (Pc p1), .blk (w.heap.size) 23 (Iv .u8 (keyOf N)), .rng 0 (Iv .u8 (keyOf bxN)), .rng 1 (Iv .u8 (keyOf byN)), .rng 2 (Iv .u8 (keyOf dN))] _ := Facts.cons (f := .blk B2 42 (Rc r2)) AB2 hS
  clear AB2
  refine wpSeq_yield (S := Facts [.blk (B2) 42 (Rc r2), .blk (B1) 38 (Pc p1), .blk (w.heap.size) 23 (Iv .u8 (keyOf N)), .rng 0 (Iv .u8 (keyOf bxN)), .rng 1 (Iv .u8 (keyOf byN)), .rng 2 (Iv .u8 (keyOf dN))]) (yieldsIf_assign rfl _ rfl (.bool true) rfl) hS ?_
  simp only [Act.put, List.setIfInBounds_toArray, List.set_cons_zero, List.set_cons_succ]
  refine wpSeq_nil ?_
  go_upto_region 4 with fail
  refine wp_region_seq ?_
  refine wpSeq_yield (S := Facts [.blk (B2) 42 (Rc r2), .blk (B1) 38 (Pc p1), .blk (w.heap.size) 23 (Iv .u8 (keyOf N)), .rng 0 (Iv .u8 (keyOf bxN)), .rng 1 (Iv .u8 (keyOf byN)), .rng 2 (Iv .u8 (keyOf dN))]) (yieldsIf_move rfl _ rfl (.bool true) rfl) hS ?_
  simp only [Act.put, List.setIfInBounds_toArray, List.set_cons_zero, List.set_cons_succ]
  refine wpSeq_yield (S := Facts [.blk (B2) 42 (Rc r2), .blk (B1) 38 (Pc p1), .blk (w.heap.size) 23 (Iv .u8 (keyOf N)), .rng 0 (Iv .u8 (keyOf bxN)), .rng 1 (Iv .u8 (keyOf byN)), .rng 2 (Iv .u8 (keyOf dN))]) (yieldsIf_move rfl _ rfl (.bool true) rfl) hS ?_
  simp only [Act.put, List.setIfInBounds_toArray, List.set_cons_zero, List.set_cons_succ]
  refine wpSeq_yield (S := Facts [.blk (B2) 42 (Rc r2), .blk (B1) 38 (Pc p1), .blk (w.heap.size) 23 (Iv .u8 (keyOf N)), .rng 0 (Iv .u8 (keyOf bxN)), .rng 1 (Iv .u8 (keyOf byN)), .rng 2 (Iv .u8 (keyOf dN))]) (yieldsIf_move rfl _ rfl (.bool true) rfl) hS ?_
  simp only [Act.put, List.setIfInBounds_toArray, List.set_cons_zero, List.set_cons_succ]
  refine wpSeq_yield (S := Facts [.blk (B2) 42 (Rc r2), .blk (B1) 38 (Pc p1), .blk (w.heap.size) 23 (Iv .u8 (keyOf N)), .rng 0 (Iv .u8 (keyOf bxN)), .rng 1 (Iv .u8 (keyOf byN)), .rng 2 (Iv .u8 (keyOf dN))]) (yieldsIf_pick rfl _ _ _ rfl true rfl _ rfl) hS ?_
  simp only [Act.put, List.setIfInBounds_toArray, List.set_cons_zero, List.set_cons_succ]
  refine wpSeq_nil ?_
  go_upto_region 5 with fail
  replace hS := hS.drew
  replace hB := below_drew hB
  replace Hr2 := Hr2.drew
  replace K1 := K1.drew
  replace K2 := K2.drew
  refine wp_region_Z (S := Facts [.blk (B2) 42 (Rc r2), .blk (B1) 38 (Pc p1), .blk (w.heap.size) 23 (Iv .u8 (keyOf N)), .rng 0 (Iv .u8 (keyOf bxN)), .rng 1 (Iv .u8 (keyOf byN)), .rng 2 (Iv .u8 (keyOf dN))]) 3 (by kernel_rfl) ?_
  refine wpAnyZ_takeL 0 rfl (by kernel_rfl) (by kernel_rfl) (by kernel_rfl) (by kernel_rfl) (by kernel_rfl) (fun _ _ _ h => h) (show YieldsIf _ _ _ _ (PV p1) _ from yieldsIf_load rfl 38 _ rfl (B1) rfl 38 _ _ (.tail _ (.head _)) Tryd.underlying38 rfl (info_Pc _)) hS ?_
  simp only [Act.put, List.setIfInBounds_toArray, List.set_cons_zero, List.set_cons_succ]
  refine wpAnyZ_takeL 1 rfl (by kernel_rfl) (by kernel_rfl) (by kernel_rfl) (by kernel_rfl) (by kernel_rfl) (fun _ _ _ h => h) (show YieldsIf _ _ _ _ (RW r2) _ from yieldsIf_load rfl 42 _ rfl (B2) rfl 42 _ _ (.head _) Tryd.underlying42 rfl (info_Rc _)) hS ?_
  simp only [Act.put, List.setIfInBounds_toArray, List.set_cons_zero, List.set_cons_succ]
  refine wpAnyZ_store_row 2 rfl (by kernel_rfl) rfl _ _ _ rfl (w.heap.size + 1) (Pc p1) rfl rfl _ _ K1 (info_Pc _) (Pc_same _ _) (Pc_one _) (Facts.cons (f := .blk (B2) 42 (Rc r2)) ((hS.blkAt (B2) 42 (Rc r2) (.head _)).rowFar (k := w.heap.size + 1) (blk_ne (hS.blkAt (B2) 42 (Rc r2) (.head _)) K1 (by decide)) (Pc p1)) (Facts.cons (f := .blk (B1) 38 (Pc p1)) ((hS.blkAt (B1) 38 (Pc p1) (.tail _ (.head _))).rowFar (k := w.heap.size + 1) (by omega) (Pc p1)) (Facts.cons (f := .blk (w.heap.size) 23 (Iv .u8 (keyOf N))) ((hS.blkAt (w.heap.size) 23 (Iv .u8 (keyOf N)) (.tail _ (.tail _ (.head _)))).rowFar (k := w.heap.size + 1) (blk_ne (hS.blkAt (w.heap.size) 23 (Iv .u8 (keyOf N)) (.tail _ (.tail _ (.head _)))) K1 (by decide)) (Pc p1)) (Facts.cons (f := .rng 0 (Iv .u8 (keyOf bxN))) ((hS.rngAt _ _ (.tail _ (.tail _ (.tail _ (.head _))))).rowFar (k := w.heap.size + 1) (by omega) (Pc p1)) (Facts.cons (f := .rng 1 (Iv .u8 (keyOf byN))) ((hS.rngAt _ _ (.tail _ (.tail _ (.tail _ (.tail _ (.head _)))))).rowFar (k := w.heap.size + 1) (by omega) (Pc p1)) (Facts.cons (f := .rng 2 (Iv .u8 (keyOf dN))) ((hS.rngAt _ _ (.tail _ (.tail _ (.tail _ (.tail _ (.tail _ (.head _))))))).rowFar (k := w.heap.size + 1) (by omega) (Pc p1)) (Facts.nil))))))) ?_
  try simp only [Act.put, List.setIfInBounds_toArray, List.set_cons_zero, List.set_cons_succ]
  replace Hr2 := Hr2.away K1 (Pc_not32 _) (Pc p1)
  replace hB := below_setRow hB (g := w.heap.size + 1) (by omega) (Pc p1)
  replace hS : Facts [.blk (B2) 42 (Rc r2), .blk (B1) 38 (Pc p1), .blk (w.heap.size) 23 (Iv .u8 (keyOf N)), .rng 0 (Iv .u8 (keyOf bxN)), .rng 1 (Iv .u8 (keyOf byN)), .rng 2 (Iv .u8 (keyOf dN))] _ := Facts.cons (f := .blk (B2) 42 (Rc r2)) ((hS.blkAt (B2) 42 (Rc r2) (.head _)).rowFar (k := w.heap.size + 1) (blk_ne (hS.blkAt (B2) 42 (Rc r2) (.head _)) K1 (by decide)) (Pc p1)) (Facts.cons (f := .blk (B1) 38 (Pc p1)) ((hS.blkAt (B1) 38 (Pc p1) (.tail _ (.head _))).rowFar (k := w.heap.size + 1) (by omega) (Pc p1)) (Facts.cons (f := .blk (w.heap.size) 23 (Iv .u8 (keyOf N))) ((hS.blkAt (w.heap.size) 23 (Iv .u8 (keyOf N)) (.tail _ (.tail _ (.head _)))).rowFar (k := w.heap.size + 1) (blk_ne (hS.blkAt (w.heap.size) 23 (Iv .u8 (keyOf N)) (.tail _ (.tail _ (.head _)))) K1 (by decide)) (Pc p1)) (Facts.cons (f := .rng 0 (Iv .u8 (keyOf bxN))) ((hS.rngAt _ _ (.tail _ (.tail _ (.tail _ (.head _))))).rowFar (k := w.heap.size + 1) (by omega) (Pc p1)) (Facts.cons (f := .rng 1 (Iv .u8 (keyOf byN))) ((hS.rngAt _ _ (.tail _ (.tail _ (.tail _ (.tail _ (.head _)))))).rowFar (k := w.heap.size + 1) (by omega) (Pc p1)) (Facts.cons (f := .rng 2 (Iv .u8 (keyOf dN))) ((hS.rngAt _ _ (.tail _ (.tail _ (.tail _ (.tail _ (.tail _ (.head _))))))).rowFar (k := w.heap.size + 1) (by omega) (Pc p1)) (Facts.nil))))))
  replace K1 := K1.row (Pc p1)
  replace K2 := K2.rowFar (k := w.heap.size + 1) (by omega) (Pc p1)
  generalize hWn : World.setRow _ _ _ = Wn at *
  clear hWn
  refine wpAnyZ_store_end 3 rfl (by kernel_rfl) rfl _ _ _ rfl (w.heap.size + 1 + 1) (Rc r2) rfl rfl _ _ K2 (info_Rc _) rfl Hr2.one (by kernel_rfl) ?_
  try simp only [Act.put, List.setIfInBounds_toArray, List.set_cons_zero, List.set_cons_succ]
  replace Hr2 := Hr2.away K2 zR_not32 (Rc r2)
  replace hB := below_setRow hB (g := w.heap.size + 1 + 1) (by omega) (Rc r2)
  replace hS : Facts [.blk (B2) 42 (Rc r2), .blk (B1) 38 (Pc p1), .blk (w.heap.size) 23 (Iv .u8 (keyOf N)), .rng 0 (Iv .u8 (keyOf bxN)), .rng 1 (Iv .u8 (keyOf byN)), .rng 2 (Iv .u8 (keyOf dN))] _ := Facts.cons (f := .blk (B2) 42 (Rc r2)) ((hS.blkAt (B2) 42 (Rc r2) (.head _)).rowFar (k := w.heap.size + 1 + 1) (by omega) (Rc r2)) (Facts.cons (f := .blk (B1) 38 (Pc p1)) ((hS.blkAt (B1) 38 (Pc p1) (.tail _ (.head _))).rowFar (k := w.heap.size + 1 + 1) (blk_ne (hS.blkAt (B1) 38 (Pc p1) (.tail _ (.head _))) K2 (by decide)) (Rc r2)) (Facts.cons (f := .blk (w.heap.size) 23 (Iv .u8 (keyOf N))) ((hS.blkAt (w.heap.size) 23 (Iv .u8 (keyOf N)) (.tail _ (.tail _ (.head _)))).rowFar (k := w.heap.size + 1 + 1) (blk_ne (hS.blkAt (w.heap.size) 23 (Iv .u8 (keyOf N)) (.tail _ (.tail _ (.head _)))) K2 (by decide)) (Rc r2)) (Facts.cons (f := .rng 0 (Iv .u8 (keyOf bxN))) ((hS.rngAt _ _ (.tail _ (.tail _ (.tail _ (.head _))))).rowFar (k := w.heap.size + 1 + 1) (by omega) (Rc r2)) (Facts.cons (f := .rng 1 (Iv .u8 (keyOf byN))) ((hS.rngAt _ _ (.tail _ (.tail _ (.tail _ (.tail _ (.head _)))))).rowFar (k := w.heap.size + 1 + 1) (by omega) (Rc r2)) (Facts.cons (f := .rng 2 (Iv .u8 (keyOf dN))) ((hS.rngAt _ _ (.tail _ (.tail _ (.tail _ (.tail _ (.tail _ (.head _))))))).rowFar (k := w.heap.size + 1 + 1) (by omega) (Rc r2)) (Facts.nil))))))
  replace K1 := K1.rowFar (k := w.heap.size + 1 + 1) (by omega) (Rc r2)
  replace K2 := K2.row (Rc r2)
  generalize hWn : World.setRow _ _ _ = Wn at *
  clear hWn
  refine wpAnyZ_done (by kernel_rfl) ?_ _
  go_wp2
  exact bodyPost_ret (results_two2 rfl _ _ (w.heap.size + 1) (w.heap.size + 1 + 1) 38 42 _ _ _ _ rfl rfl K1 K2 Tryd.underlying38 Tryd.underlying42 rfl rfl (info_Pc _) (info_Rc _)) rfl ⟨_, _, P, rfl, ip1, Hr2, hB⟩
set_option maxHeartbeats 4000000 in
set_option maxRecDepth 100000 in
theorem pair_c2 (N b : Nat) (kN : N < p256) (hb : byteAt N 0 = b) (h4 : ((b : Nat) : Int).tmod 4 = 0) (hP : ∀ P : Pt dd, textN P ≠ N) (w : World) (GX : Rng w 0 (Iv .u8 (keyOf bxN))) (GY : Rng w 1 (Iv .u8 (keyOf byN))) (GD : Rng w 2 (Iv .u8 (keyOf dN))) :
    Calls Tryd.prog 19 #[Key (keyOf N)] w fun e w' => ∃ (p : P4) (r : R3) (P : Pt dd), e = .returned (.tuple #[PV p, RW r]) ∧ p.Is P ∧ RIs w' r P ∧ Below w.heap.size w w' := by
  have bGX := GX.blk
  have bGY := GY.blk
  have bGD := GD.blk
  have ipbase := pbase_is
  have ipzero := pzero_is
  have HB := Lib.hid hb
  have H4 := Lib.hid h4
  clear hb h4
  have HP := Lib.hid hP
  clear hP
  unfold Key
  go_enter Tryd.func19, Tryd.ntmps19
  go_upto_region 1 with fail
  generalize hW : World.alloc (World.alloc (World.alloc w _) _) _ = W
  have hB : Below w.heap.size w W := hW ▸ (((Below.refl w.heap.size w).alloc (Nat.le_refl _) _).alloc (by simp) _).alloc (by simp; omega) _
  have K0 : Blk W (w.heap.size) 23 (Iv .u8 (keyOf N)) := hW ▸ (((Blk.new' (by simp) _ _).alloc _).alloc _)
  have K1 : Blk W (w.heap.size + 1) 38 (Pc p40) := hW ▸ ((Blk.new' (by simp) _ _).alloc _)
  have K2 : Blk W (w.heap.size + 1 + 1) 42 zR := hW ▸ (Blk.new' (by simp) _ _)
  have hS : Facts [.blk (w.heap.size) 23 (Iv .u8 (keyOf N)), .rng 0 (Iv .u8 (keyOf bxN)), .rng 1 (Iv .u8 (keyOf byN)), .rng 2 (Iv .u8 (keyOf dN))] W := Facts.cons (f := .blk (w.heap.size) 23 (Iv .u8 (keyOf N))) K0 (Facts.cons (f := .rng 0 (Iv .u8 (keyOf bxN))) (GX.below hB) (Facts.cons (f := .rng 1 (Iv .u8 (keyOf byN))) (GY.below hB) (Facts.cons (f := .rng 2 (Iv .u8 (keyOf dN))) (GD.below hB) (Facts.nil))))
  clear hW K0
  have KB := hS.blkAt (w.heap.size) 23 (Iv .u8 (keyOf N)) (.head _)
  have c0 := key_cellj KB 0 (by decide)
  rw [HB.out] at c0
  have h4 := H4.out
  go_upto_region 2 with fail
  clear c0 h4 KB
  refine wp_region_seq ?_
  refine wpSeq_yield (S := Facts [.blk (w.heap.size) 23 (Iv .u8 (keyOf N)), .rng 0 (Iv .u8 (keyOf bxN)), .rng 1 (Iv .u8 (keyOf byN)), .rng 2 (Iv .u8 (keyOf dN))]) (show YieldsIf _ _ _ _ (Key (keyOf N)) _ from yieldsIf_load rfl 23 _ rfl (w.heap.size) rfl 23 _ _ (.head _) Tryd.underlying23 rfl (info_key _ (keyOf_length _))) hS ?_
  simp only [Act.put, List.setIfInBounds_toArray, List.set_cons_zero, List.set_cons_succ]
  refine wpSeq_wp rfl ?_
  go_simp
  refine (cdec_none N kN HP.out _).mono ?_
  rintro e v1 ⟨rfl, b⟩
  replace hB := hB.trans (b.mono hB.size)
  replace hS := hS.below b
  replace K1 := K1.below' b
  replace K2 := K2.below' b
  clear b
  show wpSeq _ _ _ _ _ _
  refine wpSeq_yield (S := Facts [.blk (w.heap.size) 23 (Iv .u8 (keyOf N)), .rng 0 (Iv .u8 (keyOf bxN)), .rng 1 (Iv .u8 (keyOf byN)), .rng 2 (Iv .u8 (keyOf dN))]) (yieldsIf_move rfl _ rfl (.tuple #[(PV p40), (.bool false)]) rfl) hS ?_
  simp only [Act.put, List.setIfInBounds_toArray, List.set_cons_zero, List.set_cons_succ]
  refine wpSeq_yield (S := Facts [.blk (w.heap.size) 23 (Iv .u8 (keyOf N)), .rng 0 (Iv .u8 (keyOf bxN)), .rng 1 (Iv .u8 (keyOf byN)), .rng 2 (Iv .u8 (keyOf dN))]) (show YieldsIf _ _ _ _ (PV p40) _ from yieldsIf_extract rfl _ _ rfl _ rfl _ rfl) hS ?_
  simp only [Act.put, List.setIfInBounds_toArray, List.set_cons_zero, List.set_cons_succ]
  refine wpSeq_yield (S := Facts [.blk (w.heap.size) 23 (Iv .u8 (keyOf N)), .rng 0 (Iv .u8 (keyOf bxN)), .rng 1 (Iv .u8 (keyOf byN)), .rng 2 (Iv .u8 (keyOf dN))]) (show YieldsIf _ _ _ _ (.bool false) _ from yieldsIf_extract rfl _ _ rfl _ rfl _ rfl) hS ?_
  simp only [Act.put, List.setIfInBounds_toArray, List.set_cons_zero, List.set_cons_succ]
  refine wpSeq_allocQ 38 (Pc p40) rfl (fun W => by go_simp; rfl) ?_
  intro B1 C1 AB1 b mB1
  simp only [Act.put, List.setIfInBounds_toArray, List.set_cons_zero, List.set_cons_succ]
  have hb := b
  clear b
  refine wpSeq_store_row rfl 38 _ _ rfl (B1) (Pc p40) rfl rfl _ _ AB1 (info_Pc _) (Pc_same _ _) (Pc_one _) ?_
  try simp only [Act.put, List.setIfInBounds_toArray, List.set_cons_zero, List.set_cons_succ]
  replace AB1 := AB1.row (Pc p40)
  replace hb := below_setRow hb mB1 (Pc p40)
  generalize hWn : World.setRow _ _ _ = Wn at *
  clear hWn
  have uB1_K1 := Nat.lt_of_lt_of_le K1.lt mB1
  have uB1_K2 := Nat.lt_of_lt_of_le K2.lt mB1
  replace mB1 := Nat.le_trans hB.size mB1
  replace hB := hB.trans (hb.mono hB.size)
  replace hS := hS.below hb
  replace K1 := K1.below' hb
  replace K2 := K2.below' hb
  clear hb
  replace hS : Facts [.blk (B1) 38 (Pc p40), .blk (w.heap.size) 23 (Iv .u8 (keyOf N)), .rng 0 (Iv .u8 (keyOf bxN)), .rng 1 (Iv .u8 (keyOf byN)), .rng 2 (Iv .u8 (keyOf dN))] _ := Facts.cons (f := .blk B1 38 (Pc p40)) AB1 hS
  clear AB1
  refine wpSeq_yield (S := Facts [.blk (B1) 38 (Pc p40), .blk (w.heap.size) 23 (Iv .u8 (keyOf N)), .rng 0 (Iv .u8 (keyOf bxN)), .rng 1 (Iv .u8 (keyOf byN)), .rng 2 (Iv .u8 (keyOf dN))]) (yieldsIf_assign rfl _ rfl (.bool false) rfl) hS ?_
  simp only [Act.put, List.setIfInBounds_toArray, List.set_cons_zero, List.set_cons_succ]
  refine wpSeq_nil ?_
  go_upto_region 3 with fail
  refine wp_region_seq ?_
  refine wpSeq_yield (S := Facts [.blk (B1) 38 (Pc p40), .blk (w.heap.size) 23 (Iv .u8 (keyOf N)), .rng 0 (Iv .u8 (keyOf bxN)), .rng 1 (Iv .u8 (keyOf byN)), .rng 2 (Iv .u8 (keyOf dN))]) (show YieldsIf _ _ _ _ (Key (keyOf N)) _ from yieldsIf_load rfl 23 _ rfl (w.heap.size) rfl 23 _ _ (.tail _ (.head _)) Tryd.underlying23 rfl (info_key _ (keyOf_length _))) hS ?_
  simp only [Act.put, List.setIfInBounds_toArray, List.set_cons_zero, List.set_cons_succ]
  refine wpSeq_wp rfl ?_
  go_simp
  refine (rread_none N kN HP.out _).mono ?_
  rintro e v2 ⟨rfl, b⟩
  replace hB := hB.trans (b.mono hB.size)
  replace hS := hS.below b
  replace K1 := K1.below' b
  replace K2 := K2.below' b
  clear b
  show wpSeq _ _ _ _ _ _
  refine wpSeq_yield (S := Facts [.blk (B1) 38 (Pc p40), .blk (w.heap.size) 23 (Iv .u8 (keyOf N)), .rng 0 (Iv .u8 (keyOf bxN)), .rng 1 (Iv .u8 (keyOf byN)), .rng 2 (Iv .u8 (keyOf dN))]) (yieldsIf_move rfl _ rfl (.tuple #[(.agg zR), (.bool false)]) rfl) hS ?_
  simp only [Act.put, List.setIfInBounds_toArray, List.set_cons_zero, List.set_cons_succ]
  refine wpSeq_yield (S := Facts [.blk (B1) 38 (Pc p40), .blk (w.heap.size) 23 (Iv .u8 (keyOf N)), .rng 0 (Iv .u8 (keyOf bxN)), .rng 1 (Iv .u8 (keyOf byN)), .rng 2 (Iv .u8 (keyOf dN))]) (show YieldsIf _ _ _ _ (.agg zR) _ from yieldsIf_extract rfl _ _ rfl _ rfl _ rfl) hS ?_
  simp only [Act.put, List.setIfInBounds_toArray, List.set_cons_zero, List.set_cons_succ]
  refine wpSeq_yield (S := Facts [.blk (B1) 38 (Pc p40), .blk (w.heap.size) 23 (Iv .u8 (keyOf N)), .rng 0 (Iv .u8 (keyOf bxN)), .rng 1 (Iv .u8 (keyOf byN)), .rng 2 (Iv .u8 (keyOf dN))]) (show YieldsIf _ _ _ _ (.bool false) _ from yieldsIf_extract rfl _ _ rfl _ rfl _ rfl) hS ?_
  simp only [Act.put, List.setIfInBounds_toArray, List.set_cons_zero, List.set_cons_succ]
  refine wpSeq_allocQ 42 zR rfl (fun W => by go_simp; rfl) ?_
  intro B2 C2 AB2 b mB2
  simp only [Act.put, List.setIfInBounds_toArray, List.set_cons_zero, List.set_cons_succ]
  have hb := b
  clear b
  refine wpSeq_store_row rfl 42 _ _ rfl (B2) zR rfl rfl _ _ AB2 info_zR rfl zR_one ?_
  try simp only [Act.put, List.setIfInBounds_toArray, List.set_cons_zero, List.set_cons_succ]
  replace AB2 := AB2.row zR
  replace hb := below_setRow hb mB2 zR
  generalize hWn : World.setRow _ _ _ = Wn at *
  clear hWn
  have uB2_K1 := Nat.lt_of_lt_of_le K1.lt mB2
  have uB2_K2 := Nat.lt_of_lt_of_le K2.lt mB2
  replace mB2 := Nat.le_trans hB.size mB2
  replace hB := hB.trans (hb.mono hB.size)
  replace hS := hS.below hb
  replace K1 := K1.below' hb
  replace K2 := K2.below' hb
  clear hb
  replace hS : Facts [.blk (B2) 42 zR, .blk (B1) 38 (Pc p40), .blk (w.heap.size) 23 (Iv .u8 (keyOf N)), .rng 0 (Iv .u8 (keyOf bxN)), .rng 1 (Iv .u8 (keyOf byN)), .rng 2 (Iv .u8 (keyOf dN))] _ := Facts.cons (f := .blk B2 42 zR) AB2 hS
  clear AB2
  refine wpSeq_yield (S := Facts [.blk (B2) 42 zR, .blk (B1) 38 (Pc p40), .blk (w.heap.size) 23 (Iv .u8 (keyOf N)), .rng 0 (Iv .u8 (keyOf bxN)), .rng 1 (Iv .u8 (keyOf byN)), .rng 2 (Iv .u8 (keyOf dN))]) (yieldsIf_assign rfl _ rfl (.bool false) rfl) hS ?_
  simp only [Act.put, List.setIfInBounds_toArray, List.set_cons_zero, List.set_cons_succ]
  refine wpSeq_nil ?_
  go_upto_region 4 with fail
  refine wp_region_seq ?_
  refine wpSeq_yield (S := Facts [.blk (B2) 42 zR, .blk (B1) 38 (Pc p40), .blk (w.heap.size) 23 (Iv .u8 (keyOf N)), .rng 0 (Iv .u8 (keyOf bxN)), .rng 1 (Iv .u8 (keyOf byN)), .rng 2 (Iv .u8 (keyOf dN))]) (yieldsIf_move rfl _ rfl (.bool false) rfl) hS ?_
  simp only [Act.put, List.setIfInBounds_toArray, List.set_cons_zero, List.set_cons_succ]
  refine wpSeq_yield (S := Facts [.blk (B2) 42 zR, .blk (B1) 38 (Pc p40), .blk (w.heap.size) 23 (Iv .u8 (keyOf N)), .rng 0 (Iv .u8 (keyOf bxN)), .rng 1 (Iv .u8 (keyOf byN)), .rng 2 (Iv .u8 (keyOf dN))]) (yieldsIf_move rfl _ rfl (.bool false) rfl) hS ?_
  simp only [Act.put, List.setIfInBounds_toArray, List.set_cons_zero, List.set_cons_succ]
  refine wpSeq_yield (S := Facts [.blk (B2) 42 zR, .blk (B1) 38 (Pc p40), .blk (w.heap.size) 23 (Iv .u8 (keyOf N)), .rng 0 (Iv .u8 (keyOf bxN)), .rng 1 (Iv .u8 (keyOf byN)), .rng 2 (Iv .u8 (keyOf dN))]) (yieldsIf_off rfl) hS ?_
  simp only [Act.put, List.setIfInBounds_toArray, List.set_cons_zero, List.set_cons_succ]
  refine wpSeq_yield (S := Facts [.blk (B2) 42 zR, .blk (B1) 38 (Pc p40), .blk (w.heap.size) 23 (Iv .u8 (keyOf N)), .rng 0 (Iv .u8 (keyOf bxN)), .rng 1 (Iv .u8 (keyOf byN)), .rng 2 (Iv .u8 (keyOf dN))]) (yieldsIf_pick rfl _ _ _ rfl false rfl _ rfl) hS ?_
  simp only [Act.put, List.setIfInBounds_toArray, List.set_cons_zero, List.set_cons_succ]
  refine wpSeq_nil ?_
  go_upto_region 6 with fail
  replace hS := hS.drew
  replace hB := below_drew hB
  replace K1 := K1.drew
  replace K2 := K2.drew
  refine wp_region_Z (S := Facts [.blk (B2) 42 zR, .blk (B1) 38 (Pc p40), .blk (w.heap.size) 23 (Iv .u8 (keyOf N)), .rng 0 (Iv .u8 (keyOf bxN)), .rng 1 (Iv .u8 (keyOf byN)), .rng 2 (Iv .u8 (keyOf dN))]) 7 (by kernel_rfl) ?_
  refine wpAnyZ_takeL 0 rfl (by kernel_rfl) (by kernel_rfl) (by kernel_rfl) (by kernel_rfl) (by kernel_rfl) (fun _ _ _ h => h) (show YieldsIf _ _ _ _ (Key (keyOf N)) _ from yieldsIf_load rfl 23 _ rfl (w.heap.size) rfl 23 _ _ (.tail _ (.tail _ (.head _))) Tryd.underlying23 rfl (info_key _ (keyOf_length _))) hS ?_
  simp only [Act.put, List.setIfInBounds_toArray, List.set_cons_zero, List.set_cons_succ]
  refine wpAnyZ_takeL 3 rfl (by kernel_rfl) (by kernel_rfl) (by kernel_rfl) (by kernel_rfl) (by kernel_rfl) (fun _ _ _ h => h) (show YieldsIf _ _ _ _ (Key (keyOf N)) _ from yieldsIf_load rfl 23 _ rfl (w.heap.size) rfl 23 _ _ (.tail _ (.tail _ (.head _))) Tryd.underlying23 rfl (info_key _ (keyOf_length _))) hS ?_
  simp only [Act.put, List.setIfInBounds_toArray, List.set_cons_zero, List.set_cons_succ]
  refine wpAnyZ_one (i := 1) (by kernel_rfl) ?_
  unfold wpOp
  go_simp
  left
  refine (cbase_v _ (hS.rngAt _ _ (.tail _ (.tail _ (.tail _ (.head _))))) (hS.rngAt _ _ (.tail _ (.tail _ (.tail _ (.tail _ (.head _))))))).mono ?_
  rintro e v3 ⟨rfl, b⟩
  replace hB := hB.trans (b.mono hB.size)
  replace hS := hS.below b
  replace K1 := K1.below' b
  replace K2 := K2.below' b
  clear b
  refine ⟨hS, ?_⟩
  obtain ⟨q0, hq0⟩ : ∃ q : P4, q = pmul N pbase 256 := ⟨_, rfl⟩
  have iq0 : q0.Is (times ok N bb) := by rw [hq0]; exact pmul_is256 N kN ipbase
  have Hq0 := Lib.hid hq0
  clear hq0
  refine wpAnyZ_one (i := 2) (by kernel_rfl) ?_
  unfold wpOp
  go_simp
  left
  refine (mul_d N pbase q0 kN ipbase.ok Hq0.out _ (hS.rngAt _ _ (.tail _ (.tail _ (.tail _ (.tail _ (.tail _ (.head _)))))))).mono ?_
  rintro e v4 ⟨rfl, b⟩
  replace hB := hB.trans (b.mono hB.size)
  replace hS := hS.below b
  replace K1 := K1.below' b
  replace K2 := K2.below' b
  clear b
  refine ⟨hS, ?_⟩
  refine wpAnyZ_one (i := 4) (by kernel_rfl) ?_
  unfold wpOp
  go_simp
  left
  refine (rbase_v _).mono ?_
  rintro e v5 ⟨r5, rfl, Hr5n, b⟩
  replace hB := hB.trans (b.mono hB.size)
  replace hS := hS.below b
  replace K1 := K1.below' b
  replace K2 := K2.below' b
  clear b
  have Hr5 := Hr5n
  clear Hr5n
  refine ⟨hS, ?_⟩
  refine wpAnyZ_one (i := 5) (by kernel_rfl) ?_
  unfold wpOp
  go_simp
  left
  refine (roften_v N kN r5 bb _ Hr5).mono ?_
  rintro e v6 ⟨r6, rfl, Hr6n, b⟩
  replace hB := hB.trans (b.mono hB.size)
  replace hS := hS.below b
  replace Hr5 := Hr5.below b
  replace K1 := K1.below' b
  replace K2 := K2.below' b
  clear b
  have Hr6 := Hr6n
  clear Hr6n
  refine ⟨hS, ?_⟩
  refine wpAnyZ_store_row 6 rfl (by kernel_rfl) rfl _ _ _ rfl (w.heap.size + 1) (Pc q0) rfl rfl _ _ K1 (info_Pc _) (Pc_same _ _) (Pc_one _) (Facts.cons (f := .blk (B2) 42 zR) ((hS.blkAt (B2) 42 zR (.head _)).rowFar (k := w.heap.size + 1) (blk_ne (hS.blkAt (B2) 42 zR (.head _)) K1 (by decide)) (Pc q0)) (Facts.cons (f := .blk (B1) 38 (Pc p40)) ((hS.blkAt (B1) 38 (Pc p40) (.tail _ (.head _))).rowFar (k := w.heap.size + 1) (by omega) (Pc q0)) (Facts.cons (f := .blk (w.heap.size) 23 (Iv .u8 (keyOf N))) ((hS.blkAt (w.heap.size) 23 (Iv .u8 (keyOf N)) (.tail _ (.tail _ (.head _)))).rowFar (k := w.heap.size + 1) (blk_ne (hS.blkAt (w.heap.size) 23 (Iv .u8 (keyOf N)) (.tail _ (.tail _ (.head _)))) K1 (by decide)) (Pc q0)) (Facts.cons (f := .rng 0 (Iv .u8 (keyOf bxN))) ((hS.rngAt _ _ (.tail _ (.tail _ (.tail _ (.head _))))).rowFar (k := w.heap.size + 1) (by omega) (Pc q0)) (Facts.cons (f := .rng 1 (Iv .u8 (keyOf byN))) ((hS.rngAt _ _ (.tail _ (.tail _ (.tail _ (.tail _ (.head _)))))).rowFar (k := w.heap.size + 1) (by omega) (Pc q0)) (Facts.cons (f := .rng 2 (Iv .u8 (keyOf dN))) ((hS.rngAt _ _ (.tail _ (.tail _ (.tail _ (.tail _ (.tail _ (.head _))))))).rowFar (k := w.heap.size + 1) (by omega) (Pc q0)) (Facts.nil))))))) ?_
  try simp only [Act.put, List.setIfInBounds_toArray, List.set_cons_zero, List.set_cons_succ]
  replace Hr5 := Hr5.away K1 (Pc_not32 _) (Pc q0)
  replace Hr6 := Hr6.away K1 (Pc_not32 _) (Pc q0)
  replace hB := below_setRow hB (g := w.heap.size + 1) (by omega) (Pc q0)
  replace hS : Facts [.blk (B2) 42 zR, .blk (B1) 38 (Pc p40), .blk (w.heap.size) 23 (Iv .u8 (keyOf N)), .rng 0 (Iv .u8 (keyOf bxN)), .rng 1 (Iv .u8 (keyOf byN)), .rng 2 (Iv .u8 (keyOf dN))] _ := Facts.cons (f := .blk (B2) 42 zR) ((hS.blkAt (B2) 42 zR (.head _)).rowFar (k := w.heap.size + 1) (blk_ne (hS.blkAt (B2) 42 zR (.head _)) K1 (by decide)) (Pc q0)) (Facts.cons (f := .blk (B1) 38 (Pc p40)) ((hS.blkAt (B1) 38 (Pc p40) (.tail _ (.head _))).rowFar (k := w.heap.size + 1) (by omega) (Pc q0)) (Facts.cons (f := .blk (w.heap.size) 23 (Iv .u8 (keyOf N))) ((hS.blkAt (w.heap.size) 23 (Iv .u8 (keyOf N)) (.tail _ (.tail _ (.head _)))).rowFar (k := w.heap.size + 1) (blk_ne (hS.blkAt (w.heap.size) 23 (Iv .u8 (keyOf N)) (.tail _ (.tail _ (.head _)))) K1 (by decide)) (Pc q0)) (Facts.cons (f := .rng 0 (Iv .u8 (keyOf bxN))) ((hS.rngAt _ _ (.tail _ (.tail _ (.tail _ (.head _))))).rowFar (k := w.heap.size + 1) (by omega) (Pc q0)) (Facts.cons (f := .rng 1 (Iv .u8 (keyOf byN))) ((hS.rngAt _ _ (.tail _ (.tail _ (.tail _ (.tail _ (.head _)))))).rowFar (k := w.heap.size + 1) (by omega) (Pc q0)) (Facts.cons (f := .rng 2 (Iv .u8 (keyOf dN))) ((hS.rngAt _ _ (.tail _ (.tail _ (.tail _ (.tail _ (.tail _ (.head _))))))).rowFar (k := w.heap.size + 1) (by omega) (Pc q0)) (Facts.nil))))))
  replace K1 := K1.row (Pc q0)
  replace K2 := K2.rowFar (k := w.heap.size + 1) (by omega) (Pc q0)
  generalize hWn : World.setRow _ _ _ = Wn at *
  clear hWn
  refine wpAnyZ_store_end 7 rfl (by kernel_rfl) rfl _ _ _ rfl (w.heap.size + 1 + 1) (Rc r6) rfl rfl _ _ K2 (info_Rc _) rfl Hr6.one (by kernel_rfl) ?_
  try simp only [Act.put, List.setIfInBounds_toArray, List.set_cons_zero, List.set_cons_succ]
  replace Hr5 := Hr5.away K2 zR_not32 (Rc r6)
  replace Hr6 := Hr6.away K2 zR_not32 (Rc r6)
  replace hB := below_setRow hB (g := w.heap.size + 1 + 1) (by omega) (Rc r6)
  replace hS : Facts [.blk (B2) 42 zR, .blk (B1) 38 (Pc p40), .blk (w.heap.size) 23 (Iv .u8 (keyOf N)), .rng 0 (Iv .u8 (keyOf bxN)), .rng 1 (Iv .u8 (keyOf byN)), .rng 2 (Iv .u8 (keyOf dN))] _ := Facts.cons (f := .blk (B2) 42 zR) ((hS.blkAt (B2) 42 zR (.head _)).rowFar (k := w.heap.size + 1 + 1) (by omega) (Rc r6)) (Facts.cons (f := .blk (B1) 38 (Pc p40)) ((hS.blkAt (B1) 38 (Pc p40) (.tail _ (.head _))).rowFar (k := w.heap.size + 1 + 1) (blk_ne (hS.blkAt (B1) 38 (Pc p40) (.tail _ (.head _))) K2 (by decide)) (Rc r6)) (Facts.cons (f := .blk (w.heap.size) 23 (Iv .u8 (keyOf N))) ((hS.blkAt (w.heap.size) 23 (Iv .u8 (keyOf N)) (.tail _ (.tail _ (.head _)))).rowFar (k := w.heap.size + 1 + 1) (blk_ne (hS.blkAt (w.heap.size) 23 (Iv .u8 (keyOf N)) (.tail _ (.tail _ (.head _)))) K2 (by decide)) (Rc r6)) (Facts.cons (f := .rng 0 (Iv .u8 (keyOf bxN))) ((hS.rngAt _ _ (.tail _ (.tail _ (.tail _ (.head _))))).rowFar (k := w.heap.size + 1 + 1) (by omega) (Rc r6)) (Facts.cons (f := .rng 1 (Iv .u8 (keyOf byN))) ((hS.rngAt _ _ (.tail _ (.tail _ (.tail _ (.tail _ (.head _)))))).rowFar (k := w.heap.size + 1 + 1) (by omega) (Rc r6)) (Facts.cons (f := .rng 2 (Iv .u8 (keyOf dN))) ((hS.rngAt _ _ (.tail _ (.tail _ (.tail _ (.tail _ (.tail _ (.head _))))))).rowFar (k := w.heap.size + 1 + 1) (by omega) (Rc r6)) (Facts.nil))))))
  replace K1 := K1.rowFar (k := w.heap.size + 1 + 1) (by omega) (Rc r6)
  replace K2 := K2.row (Rc r6)
  generalize hWn : World.setRow _ _ _ = Wn at *
  clear hWn
  refine wpAnyZ_done (by kernel_rfl) ?_ _
  go_wp2
  exact bodyPost_ret (results_two2 rfl _ _ (w.heap.size + 1) (w.heap.size + 1 + 1) 38 42 _ _ _ _ rfl rfl K1 K2 Tryd.underlying38 Tryd.underlying42 rfl rfl (info_Pc _) (info_Rc _)) rfl ⟨_, _, (times ok N bb), rfl, iq0, Hr6, hB⟩
theorem pair_v (N : Nat) (kN : N < p256) (w : World) (GX : Rng w 0 (Iv .u8 (keyOf bxN))) (GY : Rng w 1 (Iv .u8 (keyOf byN))) (GD : Rng w 2 (Iv .u8 (keyOf dN))) :
    Calls Tryd.prog 19 #[Key (keyOf N)] w fun e w' => ∃ (p : P4) (r : R3) (P : Pt dd), e = .returned (.tuple #[PV p, RW r]) ∧ p.Is P ∧ RIs w' r P ∧ Below w.heap.size w w' := by
  have e4 : ((byteAt N 0 : Nat) : Int).tmod 4 = ((byteAt N 0 % 4 : Nat) : Int) := by
    rw [Int.tmod_eq_emod_of_nonneg (by omega)]
    omega
  by_cases hm : byteAt N 0 % 4 = 0
  · have e5 : ((byteAt N 0 : Nat) : Int).tmod 4 = 0 := by rw [e4, hm]; rfl
    by_cases h : ∃ P : Pt dd, textN P = N
    · obtain ⟨P, hP⟩ := h
      exact pair_c1 N _ kN rfl e5 P hP w GX GY GD
    · exact pair_c2 N _ kN rfl e5 (fun P e => h ⟨P, e⟩) w GX GY GD
  · exact pair_c0 N _ kN rfl _ e4 (by omega) w GX GY GD
end Go.Proofs.YtjaomgildhiddaaDoor
