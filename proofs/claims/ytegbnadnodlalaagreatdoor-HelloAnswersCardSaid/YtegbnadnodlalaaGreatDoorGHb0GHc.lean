/- sha2's words for each round: the contract of spread512. sha2's added: each word added to its own. -/
import Derived.Test.YtegbnadnodlalaaGreatDoorLl0GHa
namespace Go.Proofs.YtegbnadnodlalaaGreatDoor.H5
open Go.RowKit
def s0 (x : Nat) : Nat := rr x 1 ^^^ rr x 8 ^^^ x / 128
def s1 (x : Nat) : Nat := rr x 19 ^^^ rr x 61 ^^^ x / 64
/-- The number of m bytes of word j, the greatest first. -/
def acc (b : Nat → Nat) (j : Nat) : Nat → Nat
 | 0 => 0
 | m + 1 => acc b j m * 256 + b (8 * j + m)
theorem acc_lt (b : Nat → Nat) (hb : ∀ i, b i < 256) (j : Nat) : ∀ m, acc b j m < 256 ^ m
 | 0 => by simp [acc]
 | m + 1 => by
  have h1 := acc_lt b hb j m
  have h2 := hb (8 * j + m)
  unfold acc
  rw [Nat.pow_succ]
  omega
/-- The first n words for the rounds, out of a block's bytes, the last one first. -/
def wdl (b : Nat → Nat) : Nat → List Nat
 | 0 => []
 | n + 1 => (if n < 16 then acc b n 8 else ((wdl b n).getD 15 0 + s0 ((wdl b n).getD 14 0) + (wdl b n).getD 6 0 + s1 ((wdl b n).getD 1 0)) % 18446744073709551616) :: wdl b n
def wd (b : Nat → Nat) (i : Nat) : Nat := (wdl b (i + 1)).getD 0 0
theorem wdl_get (b : Nat → Nat) : ∀ n j, j < n → (wdl b n).getD j 0 = wd b (n - 1 - j)
 | n + 1, 0, _ => rfl
 | n + 1, j + 1, h => by
  show (wdl b n).getD j 0 = _
  rw [wdl_get b n j (by omega)]
  congr 1
  omega
theorem wd_low (b : Nat → Nat) (i : Nat) (h : i < 16) : wd b i = acc b i 8 := if_pos h
theorem wd_high (b : Nat → Nat) (i : Nat) (h : 16 ≤ i) : wd b i = (wd b (i - 16) + s0 (wd b (i - 15)) + wd b (i - 7) + s1 (wd b (i - 2))) % 18446744073709551616 := by
 have e : wd b i = ((wdl b i).getD 15 0 + s0 ((wdl b i).getD 14 0) + (wdl b i).getD 6 0 + s1 ((wdl b i).getD 1 0)) % 18446744073709551616 := if_neg (by omega)
 rw [e, wdl_get b i 15 (by omega), wdl_get b i 14 (by omega), wdl_get b i 6 (by omega), wdl_get b i 1 (by omega)]
 rfl
theorem wd_lt (b : Nat → Nat) (hb : ∀ i, b i < 256) (i : Nat) : wd b i < 18446744073709551616 := by
 by_cases h : i < 16
 ·
  rw [wd_low b i h]
  exact acc_lt b hb i 8
 ·
  rw [wd_high b i (by omega)]
  exact Nat.mod_lt _ (by decide)
/-- What word j is behind k bytes. -/
def part (b : Nat → Nat) (k j : Nat) : Nat := acc b j (min 8 (k - 8 * j))
/-- n bytes in block gb, from cell o on. -/
structure By (w : World) (gb o n : Nat) (f : Nat → Nat) : Prop where
 cell : ∀ i, i < n → w.cell? ⟨gb, o + i, none⟩ = some (.int .u8 ((f i : Nat) : Int))
 lt : ∀ i, f i < 256
 blk : gb < w.heap.size
theorem By.below {w w1 : World} {gb o n : Nat} {f : Nat → Nat} (h : By w gb o n f) (hb : Below w.heap.size w w1) : By w1 gb o n f :=
 ⟨fun i hi => (hb.cell (p := ⟨gb, o + i, none⟩) h.blk).trans (h.cell i hi), h.lt, Nat.lt_of_lt_of_le h.blk hb.size⟩
theorem By.far {w : World} {gb o n : Nat} {f : Nat → Nat} (h : By w gb o n f) {p : Addr} (hp : gb ≠ p.block) (v : Value) : By (w.setCell p v) gb o n f :=
 ⟨fun i hi => (World.cell?_setCell_other w p ⟨gb, o + i, none⟩ v (fun e => hp (by rw [e]))).trans (h.cell i hi), h.lt, by simpa [World.setCell] using h.blk⟩
theorem By.drew {w : World} {gb o n : Nat} {f : Nat → Nat} (h : By w gb o n f) : By w.drew gb o n f := ⟨h.cell, h.lt, h.blk⟩
/-- The memory of spread512: 80 words. -/
structure SpW (gb o : Nat) (b : Nat → Nat) (w wr : World) (F : Nat → Nat) : Prop where
 by_ : By wr gb o 128 b
 res : Blk wr w.heap.size 145 (Iv .u64 (List.replicate 80 0))
 out : Blk wr (w.heap.size + 1) 145 (Iv .u64 ((List.range 80).map fun j => ((F j : Nat) : Int)))
 k : Below w.heap.size w wr
 la : gb < w.heap.size
theorem SpW.drew {gb o : Nat} {b : Nat → Nat} {w wr : World} {F : Nat → Nat} (h : SpW gb o b w wr F) : SpW gb o b w wr.drew F := ⟨h.by_.drew, h.res, h.out, below_drew h.k, h.la⟩
theorem SpW.set {gb o : Nat} {b : Nat → Nat} {w wr : World} {F : Nat → Nat} (h : SpW gb o b w wr F) (j v : Nat) (G : Nat → Nat) (hv : G j = v) (ho : ∀ i, i ≠ j → G i = F i) : SpW gb o b w (wr.setCell ⟨w.heap.size + 1, j, none⟩ (.int .u64 ((v : Nat) : Int))) G := by
 have hla := h.la
 refine ⟨h.by_.far (by simp; omega) _, h.res.far (by simp) _, ?_, h.k.setCell (by simp) _, h.la⟩
 have hs := h.out.set j (.int .u64 ((v : Nat) : Int))
 rw [Iv_set] at hs
 have e : ((List.range 80).map fun i => ((F i : Nat) : Int)).set j ((v : Nat) : Int) = (List.range 80).map fun i => ((G i : Nat) : Int) := by
  apply List.ext_getElem (by simp)
  intro i h1 h2
  simp only [List.getElem_set, List.getElem_map, List.getElem_range]
  by_cases hj : j = i
  · rw [if_pos hj, ← hj, hv]
  · rw [if_neg hj, ho i (fun e => hj e.symm)]
 rw [e] at hs
 exact hs
theorem SpW.cell {gb o : Nat} {b : Nat → Nat} {w wr : World} {F : Nat → Nat} (h : SpW gb o b w wr F) (j : Nat) (hj : j < 80) : wr.cell? ⟨w.heap.size + 1, j, none⟩ = some (.int .u64 ((F j : Nat) : Int)) := by
 rw [h.out.cell, Iv_get _ _ _ (by simp; omega)]
 simp [hj]
theorem part_zero (b : Nat → Nat) (j : Nat) : part b 0 j = 0 := by unfold part; rw [Nat.zero_sub, Nat.min_zero]; rfl
theorem part_other (b : Nat → Nat) (k j : Nat) (h : j ≠ k / 8) : part b (k + 1) j = part b k j := by
 unfold part
 congr 1
 omega
theorem part_here (b : Nat → Nat) (k : Nat) : part b (k + 1) (k / 8) = part b k (k / 8) * 256 + b k := by
 unfold part
 rw [show min 8 (k + 1 - 8 * (k / 8)) = min 8 (k - 8 * (k / 8)) + 1 by omega]
 show acc b (k / 8) _ * 256 + b (8 * (k / 8) + _) = _
 rw [show 8 * (k / 8) + min 8 (k - 8 * (k / 8)) = k by omega]
theorem part_lt (b : Nat → Nat) (hb : ∀ i, b i < 256) (k : Nat) : part b k (k / 8) < 72057594037927936 := by
 unfold part
 refine Nat.lt_of_lt_of_le (acc_lt b hb _ _) ?_
 have : (256 : Nat) ^ min 8 (k - 8 * (k / 8)) ≤ 256 ^ 7 := Nat.pow_le_pow_right (by decide) (by omega)
 exact this
theorem or_byte8 (v b : Nat) (hv : v < 72057594037927936) (hb : b < 256) : bits .or .u64 (IntKind.u64.wrap ((v : Int) * 256)) (b : Int) = ((v * 256 + b : Nat) : Int) := by
 rw [IntKind.wrap_u64]
 rw [or64x 8 _ _ (by omega) (by omega) (by omega) (by omega) (by omega) (by decide)]
 omega
theorem part_full (b : Nat → Nat) (j : Nat) (h : j < 16) : part b 128 j = acc b j 8 := by
 unfold part
 rw [show min 8 (128 - 8 * j) = 8 by omega]
/-- What the words are behind round i. -/
def upto (b : Nat → Nat) (k i : Nat) : Nat := if i < k then wd b i else 0
theorem zero80 (w : World) : (zeroValue 145).run Tryz.prog w = .ok (.agg (Iv .u64 (List.replicate 80 0))) w := by kernel_rfl
set_option maxHeartbeats 2000000 in
set_option maxRecDepth 100000 in
theorem spread512_any (gb o c : Nat) (b : Nat → Nat) (w : World) (hb : By w gb o 128 b) :
  Calls Tryz.prog 100 #[.slice (some ⟨gb, o, none⟩) 128 c] w fun e w' => e = .returned (.agg (Iv .u64 ((List.range 80).map fun j => ((wd b j : Nat) : Int)))) ∧ Below w.heap.size w w' := by
 go_enter Tryz.func100, Tryz.ntmps100
 go_wp2_with fail
 first | (rw [zero80]; go_wp2_with fail; rw [zero80]; go_wp2_with fail) | skip
 generalize hW : World.alloc (World.alloc w _) _ = W
 have F0 : SpW gb o b w W (part b 0) := by
  have e : (List.range 80).map (fun j => ((part b 0 j : Nat) : Int)) = List.replicate 80 0 := by
   simp only [part_zero]
   rfl
  subst hW
  refine ⟨hb.below (((Below.refl _ _).alloc (Nat.le_refl _) _).alloc (by simp) _), (Blk.new _ _ _).alloc _, ?_, ((Below.refl _ _).alloc (Nat.le_refl _) _).alloc (by simp) _, hb.blk⟩
  rw [e]
  exact Blk.new' (by simp) _ _
 clear hW
 go_loopw [12] (fun i wr => ∃ k : Nat, k ≤ 128 ∧ i = .int .i64 k ∧ SpW gb o b w wr (part b k)) (fun i _ => 128 - (intOf i).toNat)
 case atStart => exact ⟨0, by omega, rfl, F0⟩
 case round =>
  obtain ⟨k, hk, rfl, F⟩ := hrel
  clear F0
  by_cases hlt : k < 128
  ·
   go_wp2
   refine wp_region_still_tail 14 (by kernel_rfl) (by kernel_rfl) ?_
   simp only [List.take_succ_cons, List.take_zero, List.drop_succ_cons, List.drop_zero]
   change wpStill _ _ (World.drew wr) (fun a' => wpList _ _ _ _ a' (World.drew wr)) _ _
   have G := F.drew
   clear F
   generalize World.drew wr = V at G ⊢
   have c4 := G.cell (k / 8) (by omega)
   have c5 : V.cell? ⟨gb, o + k, none⟩ = some (.int .u8 ((b k : Nat) : Int)) := G.by_.cell k hlt
   have f4 := G.out.frozen (k / 8)
   have bk := hb.lt k
   have lp := part_lt b hb.lt k
   have ho := or_byte8 _ _ lp bk
   have hp := part_here b k
   obtain ⟨P, hP⟩ : ∃ P, P = part b k (k / 8) := ⟨_, rfl⟩
   rw [← hP] at c4 lp ho hp
   have i1 : (0 : Int) ≤ (k : Int) := by omega
   have i2 : (k : Int) < 128 := by omega
   have i3 : (0 : Int) ≤ (k : Int) / 8 := by omega
   have i4 : (k : Int) / 8 < 80 := by omega
   have i5 : ((k : Int) / 8).toNat = k / 8 := by omega
   have i6 : IntKind.i64.wrap ((k : Int) / 8) = (k : Int) / 8 := by rw [IntKind.wrap_i64]; omega
   have j0 : IntKind.u64.wrap ((b k : Nat) : Int) = ((b k : Nat) : Int) := by rw [IntKind.wrap_u64]; omega
   have HO := Lib.hid ho
   have G2 := Lib.hid (G.set (k / 8) (P * 256 + b k) (part b (k + 1)) hp (fun i hi => part_other b k i hi))
   clear ho hp hP lp
   repeat still_step
   refine wpStill_nil ?_
   clear i3 i4 i5 i6 j0
   go_wp2
   rw [HO.out]
   exact ⟨⟨k + 1, by omega, by go_num, G2.out⟩, by simp [intOf]; omega⟩
  ·
   obtain rfl : k = 128 := by omega
   have F1 : SpW gb o b w wr (upto b 16) := by
    have e : part b 128 = upto b 16 := by
     funext j
     unfold upto
     by_cases hj : j < 16
     · rw [if_pos hj, part_full b j hj, wd_low b j hj]
     ·
      rw [if_neg hj]
      unfold part
      rw [show min 8 (128 - 8 * j) = 0 by omega]
      rfl
    exact e ▸ F
   clear F hlt hk
   rw [show ((128 : Nat) : Int) = 128 from rfl]
   go_wp2
   go_loopw [5, 6, 7, 8, 9] (fun i _ _ _ _ wr => ∃ k : Nat, 16 ≤ k ∧ k ≤ 80 ∧ i = .int .i64 k ∧ SpW gb o b w wr (upto b k)) (fun i _ _ _ _ _ => 80 - (intOf i).toNat)
   case atStart => exact ⟨16, by omega, by omega, rfl, F1⟩
   case round =>
    obtain ⟨k, hk0, hk, rfl, F⟩ := hrel
    clear F1
    by_cases hlt : k < 80
    ·
     have hw := wd_high b k hk0
     go_upto_region 10 with fail
     refine wp_region_S (S := fun w' => w' = World.drew wr) (by kernel_rfl) ?_
     have G := F.drew
     clear F
     generalize World.drew wr = V at G ⊢
     have l1 := wd_lt b hb.lt (k - 15)
     have l2 := wd_lt b hb.lt (k - 2)
     have c1 := G.cell (k - 15) (by omega)
     have c2 := G.cell (k - 2) (by omega)
     rw [show upto b k (k - 15) = wd b (k - 15) from if_pos (by omega)] at c1
     rw [show upto b k (k - 2) = wd b (k - 2) from if_pos (by omega)] at c2
     obtain ⟨X, hX⟩ : ∃ X, X = wd b (k - 15) := ⟨_, rfl⟩
     obtain ⟨Y, hY⟩ : ∃ Y, Y = wd b (k - 2) := ⟨_, rfl⟩
     rw [← hX] at c1 l1 hw
     rw [← hY] at c2 l2 hw
     have HW := Lib.hid hw
     clear hw hX hY
     have i1 : IntKind.i64.wrap ((k : Int) - 15) = ((k - 15 : Nat) : Int) := by rw [IntKind.wrap_i64]; omega
     have i2 : IntKind.i64.wrap ((k : Int) - 2) = ((k - 2 : Nat) : Int) := by rw [IntKind.wrap_i64]; omega
     have j1 : ((k - 15 : Nat) : Int) < 80 := by omega
     have j2 : ((k - 2 : Nat) : Int) < 80 := by omega
     have hS : (fun w' => w' = V) V := rfl
     refine wpAnyS_takeL 0 (v := ?_) rfl (by kernel_rfl) (by kernel_rfl) (by kernel_rfl) (fun _ _ _ h => h) (Or.inl ⟨by rfl, ?_⟩) hS ?_
     rotate_left
     ·
      intro w' hw'
      obtain rfl : w' = V := hw'
      go_simp
      try (with_reducible rfl)
     simp only [Act.put, List.setIfInBounds_toArray, List.set_cons_zero, List.set_cons_succ]
     refine wpAnyS_takeL 1 (v := ?_) rfl (by kernel_rfl) (by kernel_rfl) (by kernel_rfl) (fun _ _ _ h => h) (Or.inl ⟨by rfl, ?_⟩) hS ?_
     rotate_left
     ·
      intro w' hw'
      obtain rfl : w' = V := hw'
      go_simp
      try (with_reducible rfl)
     simp only [Act.put, List.setIfInBounds_toArray, List.set_cons_zero, List.set_cons_succ]
     refine wpAnyS_takeL 2 (v := ?_) rfl (by kernel_rfl) (by kernel_rfl) (by kernel_rfl) (fun _ _ _ h => h) (Or.inl ⟨by rfl, ?_⟩) hS ?_
     rotate_left
     ·
      intro w' hw'
      obtain rfl : w' = V := hw'
      go_simp
      try (with_reducible rfl)
     simp only [Act.put, List.setIfInBounds_toArray, List.set_cons_zero, List.set_cons_succ]
     refine wpAnyS_takeL 3 (v := ?_) rfl (by kernel_rfl) (by kernel_rfl) (by kernel_rfl) (fun _ _ _ h => h) (Or.inl ⟨by rfl, ?_⟩) hS ?_
     rotate_left
     ·
      intro w' hw'
      obtain rfl : w' = V := hw'
      go_simp
      try (with_reducible rfl)
     simp only [Act.put, List.setIfInBounds_toArray, List.set_cons_zero, List.set_cons_succ]
     refine wpAnyS_takeL 4 (v := ?_) rfl (by kernel_rfl) (by kernel_rfl) (by kernel_rfl) (fun _ _ _ h => h) (Or.inl ⟨by rfl, ?_⟩) hS ?_
     rotate_left
     ·
      intro w' hw'
      obtain rfl : w' = V := hw'
      go_simp
      try (with_reducible rfl)
     simp only [Act.put, List.setIfInBounds_toArray, List.set_cons_zero, List.set_cons_succ]
     refine wpAnyS_takeL 5 (v := ?_) rfl (by kernel_rfl) (by kernel_rfl) (by kernel_rfl) (fun _ _ _ h => h) (Or.inl ⟨by rfl, ?_⟩) hS ?_
     rotate_left
     ·
      intro w' hw'
      obtain rfl : w' = V := hw'
      go_simp
      try (with_reducible rfl)
     simp only [Act.put, List.setIfInBounds_toArray, List.set_cons_zero, List.set_cons_succ]
     refine wpAnyS_takeL 6 (v := ?_) rfl (by kernel_rfl) (by kernel_rfl) (by kernel_rfl) (fun _ _ _ h => h) (Or.inl ⟨by rfl, ?_⟩) hS ?_
     rotate_left
     ·
      intro w' hw'
      obtain rfl : w' = V := hw'
      go_simp
      try (with_reducible rfl)
     simp only [Act.put, List.setIfInBounds_toArray, List.set_cons_zero, List.set_cons_succ]
     refine wpAnyS_takeL 7 (v := ?_) rfl (by kernel_rfl) (by kernel_rfl) (by kernel_rfl) (fun _ _ _ h => h) (Or.inl ⟨by rfl, ?_⟩) hS ?_
     rotate_left
     ·
      intro w' hw'
      obtain rfl : w' = V := hw'
      go_simp
      try (with_reducible rfl)
     simp only [Act.put, List.setIfInBounds_toArray, List.set_cons_zero, List.set_cons_succ]
     refine wpAnyS_takeL 8 rfl (by kernel_rfl) (by kernel_rfl) (by kernel_rfl) (fun _ _ _ h => h) (show YieldsIf _ _ _ _ (.int .u64 X) _ from yieldsIf_assign rfl _ rfl _ rfl) hS ?_
     simp only [Act.put, List.setIfInBounds_toArray, List.set_cons_zero, List.set_cons_succ]
     refine wpAnyS_takeL 9 rfl (by kernel_rfl) (by kernel_rfl) (by kernel_rfl) (fun _ _ _ h => h) (show YieldsIf _ _ _ _ (.int .u64 Y) _ from yieldsIf_assign rfl _ rfl _ rfl) hS ?_
     simp only [Act.put, List.setIfInBounds_toArray, List.set_cons_zero, List.set_cons_succ]
     refine wpAnyS_done (by kernel_rfl) ?_ _
     clear c1 c2 i1 i2 j1 j2 hS
     have R1 : Hid (∀ W, Calls Tryz.prog 101 #[.int .u64 X, .int .i64 1] W fun e w' => e = .returned (.int .u64 ((rr X 1 : Nat) : Int)) ∧ W = w') := Lib.hid fun W => right64_any X 1 W l1 (by decide) (by decide)
     have R2 : Hid (∀ W, Calls Tryz.prog 101 #[.int .u64 X, .int .i64 8] W fun e w' => e = .returned (.int .u64 ((rr X 8 : Nat) : Int)) ∧ W = w') := Lib.hid fun W => right64_any X 8 W l1 (by decide) (by decide)
     have R3 : Hid (∀ W, Calls Tryz.prog 101 #[.int .u64 Y, .int .i64 19] W fun e w' => e = .returned (.int .u64 ((rr Y 19 : Nat) : Int)) ∧ W = w') := Lib.hid fun W => right64_any Y 19 W l2 (by decide) (by decide)
     have R4 : Hid (∀ W, Calls Tryz.prog 101 #[.int .u64 Y, .int .i64 61] W fun e w' => e = .returned (.int .u64 ((rr Y 61 : Nat) : Int)) ∧ W = w') := Lib.hid fun W => right64_any Y 61 W l2 (by decide) (by decide)
     have E0 : Hid (bits .xor .u64 (bits .xor .u64 ((rr X 1 : Nat) : Int) ((rr X 8 : Nat) : Int)) ((X : Int) / 128) = ((s0 X : Nat) : Int)) := Lib.hid (by
      have a1 := rr_lt X 1 l1 (by decide) (by decide)
      have a2 := rr_lt X 8 l1 (by decide) (by decide)
      rw [show (X : Int) / 128 = ((X / 128 : Nat) : Int) by omega, u64_xor_nat _ _ a1 a2, u64_xor_nat _ _ (xor_lt _ _ a1 a2) (by omega)]
      rfl)
     have E1 : Hid (bits .xor .u64 (bits .xor .u64 ((rr Y 19 : Nat) : Int) ((rr Y 61 : Nat) : Int)) ((Y : Int) / 64) = ((s1 Y : Nat) : Int)) := Lib.hid (by
      have a1 := rr_lt Y 19 l2 (by decide) (by decide)
      have a2 := rr_lt Y 61 l2 (by decide) (by decide)
      rw [show (Y : Int) / 64 = ((Y / 64 : Nat) : Int) by omega, u64_xor_nat _ _ a1 a2, u64_xor_nat _ _ (xor_lt _ _ a1 a2) (by omega)]
      rfl)
     go_wp2_with fail
     refine (R1.out _).mono ?_
     rintro e w1 ⟨rfl, rfl⟩
     go_wp2_with fail
     refine (R2.out _).mono ?_
     rintro e w1 ⟨rfl, rfl⟩
     go_wp2_with fail
     refine (R3.out _).mono ?_
     rintro e w1 ⟨rfl, rfl⟩
     go_wp2_with fail
     refine (R4.out _).mono ?_
     rintro e w1 ⟨rfl, rfl⟩
     go_upto_region 13 with fail
     rw [E0.out, E1.out]
     clear R1 R2 R3 R4 E0 E1
     refine wp_region_still_tail 15 (by kernel_rfl) (by kernel_rfl) ?_
     simp only [List.take_succ_cons, List.take_zero, List.drop_succ_cons, List.drop_zero]
     change wpStill _ _ (World.drew V) (fun a' => wpList _ _ _ _ a' (World.drew V)) _ _
     have F := G.drew
     clear G
     generalize World.drew V = U at F ⊢
     have l3 := wd_lt b hb.lt (k - 16)
     have l4 := wd_lt b hb.lt (k - 7)
     have c3 := F.cell (k - 16) (by omega)
     have c4 := F.cell (k - 7) (by omega)
     have c5 := F.cell k hlt
     have f5 := F.out.frozen k
     rw [show upto b k (k - 16) = wd b (k - 16) from if_pos (by omega)] at c3
     rw [show upto b k (k - 7) = wd b (k - 7) from if_pos (by omega)] at c4
     rw [show upto b k k = 0 from if_neg (by omega)] at c5
     have F2 := Lib.hid (F.set k (wd b k) (upto b (k + 1)) (if_pos (by omega)) (fun i hi => by unfold upto; by_cases h : i < k <;> simp [h] <;> omega))
     obtain ⟨A, hA⟩ : ∃ A, A = wd b (k - 16) := ⟨_, rfl⟩
     obtain ⟨B, hB⟩ : ∃ B, B = wd b (k - 7) := ⟨_, rfl⟩
     obtain ⟨C, hC⟩ : ∃ C, C = wd b k := ⟨_, rfl⟩
     rw [← hA] at c3 l3
     rw [← hB] at c4 l4
     have HV : Hid (C = (A + s0 X + B + s1 Y) % 18446744073709551616) := Lib.hid (by rw [hA, hB, hC]; exact HW.out)
     rw [← hC] at F2
     clear hA hB hC HW
     have i3 : IntKind.i64.wrap ((k : Int) - 16) = ((k - 16 : Nat) : Int) := by rw [IntKind.wrap_i64]; omega
     have i4 : IntKind.i64.wrap ((k : Int) - 7) = ((k - 7 : Nat) : Int) := by rw [IntKind.wrap_i64]; omega
     have j3 : ((k - 16 : Nat) : Int) < 80 := by omega
     have j4 : ((k - 7 : Nat) : Int) < 80 := by omega
     have j5 : (k : Int) < 80 := by omega
     have j6 : (0 : Int) ≤ (k : Int) := by omega
     repeat still_step
     refine wpStill_nil ?_
     clear i3 i4 j3 j4 c3 c4
     go_wp2
     refine ⟨⟨k + 1, by omega, by omega, by go_num, ?_⟩, by simp [intOf]; omega⟩
     have := F2.out
     rw [HV.out] at this
     have e : (((A + s0 X + B + s1 Y) % 18446744073709551616 : Nat) : Int) = IntKind.u64.wrap (IntKind.u64.wrap (IntKind.u64.wrap ((A : Int) + ((s0 X : Nat) : Int)) + (B : Int)) + ((s1 Y : Nat) : Int)) := by simp only [IntKind.wrap_u64]; omega
     rw [e] at this
     exact this
    ·
     obtain rfl : k = 80 := by omega
     have HO := F.out
     have HR := F.res
     have HB := F.k
     have e : (List.range 80).map (fun j => ((upto b 80 j : Nat) : Int)) = (List.range 80).map fun j => ((wd b j : Nat) : Int) :=
      List.map_congr_left fun j hj => by rw [show upto b 80 j = wd b j from if_pos (List.mem_range.1 hj)]
     rw [e] at HO
     obtain ⟨L, hL⟩ : ∃ L : List Int, L = (List.range 80).map fun j => ((wd b j : Nat) : Int) := ⟨_, rfl⟩
     have lL : L.length = 80 := by rw [hL]; simp
     rw [← hL] at HO
     have HL := Lib.hid hL
     have iL : (Tryz.prog.info? 145).map (·.size) = some (Iv .u64 L).size := by
      rw [Iv_size, lL]
      kernel_rfl
     clear F e hL
     go_wp2_with (first | (refine wpList_load_row rfl 145 _ rfl (w.heap.size + 1) rfl 145 _ (0, 0) _ HO Tryz.underlying145 rfl iL ?_) | (refine wpList_store_row rfl 145 _ _ rfl (w.heap.size) (Iv .u64 L) rfl rfl 145 _ HR iL (by rw [Iv_size, Iv_size, lL]; rfl) (Iv_one _ _) ?_))
     exact bodyPost_ret (results_cell_row rfl _ _ _ 145 _ (0, 0) _ rfl (HR.row _) Tryz.underlying145 rfl iL) rfl ⟨by rw [HL.out], below_setRow HB (by omega) _⟩
end Go.Proofs.YtegbnadnodlalaaGreatDoor.H5
namespace Go.Proofs.YtegbnadnodlalaaGreatDoor.H5
open Go.RowKit
/-- Eight words as a value. -/
def W8 (f : Nat → Nat) : List Int := (List.range 8).map fun i => ((f i : Nat) : Int)
def V8 (f : Nat → Nat) : Value := .agg (Iv .u64 (W8 f))
theorem W8_length (f : Nat → Nat) : (W8 f).length = 8 := by simp [W8]
theorem info_W8 (f : Nat → Nat) : (Tryz.prog.info? 115).map (·.size) = some (Iv .u64 (W8 f)).size := by
 rw [Iv_size, W8_length]
 kernel_rfl
theorem W8_get (f : Nat → Nat) (i : Nat) (h : i < 8) : (Iv .u64 (W8 f))[i]? = some (.int .u64 ((f i : Nat) : Int)) := by
 rw [Iv_get _ _ _ (by rw [W8_length]; exact h)]
 simp [W8, h]
theorem W8_set (f g : Nat → Nat) (k : Nat) (hk : g k = g k) (ho : ∀ i, i ≠ k → g i = f i) : (W8 f).set k ((g k : Nat) : Int) = W8 g := by
 unfold W8
 apply List.ext_getElem (by simp)
 intro i h1 h2
 simp only [List.getElem_set, List.getElem_map, List.getElem_range]
 by_cases hj : k = i
 · rw [if_pos hj, hj]
 · rw [if_neg hj, ho i (fun e => hj e.symm)]
def plus8 (f g : Nat → Nat) (k i : Nat) : Nat := if i < k then (f i + g i) % 18446744073709551616 else f i
structure AdW (f g : Nat → Nat) (w wr : World) (k : Nat) : Prop where
 a : Blk wr w.heap.size 115 (Iv .u64 (W8 (plus8 f g k)))
 b : Blk wr (w.heap.size + 1) 115 (Iv .u64 (W8 g))
 r : Blk wr (w.heap.size + 1 + 1) 115 (Iv .u64 (List.replicate 8 0))
 k : Below w.heap.size w wr
theorem AdW.drew {f g : Nat → Nat} {w wr : World} {k : Nat} (h : AdW f g w wr k) : AdW f g w wr.drew k := ⟨h.a, h.b, h.r, below_drew h.k⟩
theorem AdW.step {f g : Nat → Nat} {w wr : World} {k : Nat} (h : AdW f g w wr k) : AdW f g w (wr.setCell ⟨w.heap.size, k, none⟩ (.int .u64 (((f k + g k) % 18446744073709551616 : Nat) : Int))) (k + 1) := by
 refine ⟨?_, h.b.far (by simp) _, h.r.far (by simp; omega) _, h.k.setCell (by simp) _⟩
 have hs := h.a.set k (.int .u64 (((f k + g k) % 18446744073709551616 : Nat) : Int))
 rw [Iv_set] at hs
 have e := W8_set (plus8 f g k) (plus8 f g (k + 1)) k rfl (fun i hi => by unfold plus8; by_cases h : i < k <;> simp [h] <;> omega)
 rw [show plus8 f g (k + 1) k = (f k + g k) % 18446744073709551616 from if_pos (by omega)] at e
 rw [e] at hs
 exact hs
theorem plus8_zero (f g : Nat → Nat) : plus8 f g 0 = f := by
 funext i
 unfold plus8
 rw [if_neg (Nat.not_lt_zero i)]
set_option maxHeartbeats 2000000 in
set_option maxRecDepth 100000 in
theorem added_any (f g : Nat → Nat) (w : World) (hf : ∀ i, i < 8 → f i < 18446744073709551616) (hg : ∀ i, i < 8 → g i < 18446744073709551616) :
  Calls Tryz.prog 104 #[V8 f, V8 g] w fun e w' => e = .returned (V8 fun i => (f i + g i) % 18446744073709551616) ∧ Below w.heap.size w w' := by
 unfold V8
 go_enter Tryz.func104, Tryz.ntmps104
 go_wp2_with fail
 generalize hW : World.alloc (World.alloc (World.alloc w _) _) _ = W
 have F0 : AdW f g w W 0 := by
  subst hW
  refine ⟨?_, (Blk.new' (by simp) _ _).alloc _, Blk.new' (by simp) _ _, (((Below.refl _ _).alloc (Nat.le_refl _) _).alloc (by simp) _).alloc (by simp; omega) _⟩
  rw [plus8_zero]
  exact ((Blk.new _ _ _).alloc _).alloc _
 clear hW
 go_loopw [5, 6] (fun _ i wr => ∃ k : Nat, k ≤ 8 ∧ i = .int .i64 k ∧ AdW f g w wr k) (fun _ i _ => 8 - (intOf i).toNat)
 case atStart => exact ⟨0, by omega, rfl, F0⟩
 case round =>
  obtain ⟨k, hk, rfl, F⟩ := hrel
  clear F0
  by_cases hlt : k < 8
  ·
   go_upto_region 4 with fail
   refine wp_region_still_tail 8 (by kernel_rfl) (by kernel_rfl) ?_
   simp only [List.take_succ_cons, List.take_zero, List.drop_succ_cons, List.drop_zero]
   change wpStill _ _ (World.drew wr) (fun a' => wpList _ _ _ _ a' (World.drew wr)) _ _
   have G := F.drew
   clear F
   generalize World.drew wr = V at G ⊢
   have c1 : V.cell? ⟨w.heap.size, k, none⟩ = some (.int .u64 ((f k : Nat) : Int)) := by
    rw [G.a.cell, W8_get _ _ hlt, show plus8 f g k k = f k from if_neg (by omega)]
   have c2 : V.cell? ⟨w.heap.size + 1, k, none⟩ = some (.int .u64 ((g k : Nat) : Int)) := by
    rw [G.b.cell, W8_get _ _ hlt]
   have f1 := G.a.frozen k
   have l1 := hf k hlt
   have l2 := hg k hlt
   have i1 : (0 : Int) ≤ (k : Int) := by omega
   have i2 : (k : Int) < 8 := by omega
   repeat still_step
   refine wpStill_nil ?_
   go_wp2
   refine ⟨⟨k + 1, by omega, by go_num, ?_⟩, by simp [intOf]; omega⟩
   have := G.step
   rw [show (((f k + g k) % 18446744073709551616 : Nat) : Int) = IntKind.u64.wrap (((f k : Nat) : Int) + ((g k : Nat) : Int)) by rw [IntKind.wrap_u64]; omega] at this
   exact this
  ·
   obtain rfl : k = 8 := by omega
   have HA := F.a
   have HR := F.r
   have HB := F.k
   have e : W8 (plus8 f g 8) = W8 fun i => (f i + g i) % 18446744073709551616 := by
    unfold W8
    exact List.map_congr_left fun j hj => by rw [show plus8 f g 8 j = (f j + g j) % 18446744073709551616 from if_pos (List.mem_range.1 hj)]
   rw [e] at HA
   clear F e
   go_wp2_with (first | (refine wpList_load_row rfl 115 _ rfl (w.heap.size) rfl 115 _ (0, 0) _ HA Tryz.underlying115 rfl (info_W8 _) ?_) | (refine wpList_store_row rfl 115 _ _ rfl (w.heap.size + 1 + 1) (Iv .u64 (W8 fun i => (f i + g i) % 18446744073709551616)) rfl rfl 115 _ HR (info_W8 _) (by rw [Iv_size, Iv_size, W8_length]; rfl) (Iv_one _ _) ?_))
   exact bodyPost_ret (results_cell_row rfl _ _ _ 115 _ (0, 0) _ rfl (HR.row _) Tryz.underlying115 rfl (info_W8 _)) rfl ⟨rfl, below_setRow HB (by omega) _⟩
end Go.Proofs.YtegbnadnodlalaaGreatDoor.H5
