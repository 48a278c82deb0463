/- sha2's words for each round: the contract of spread256. -/
import Derived.Test.YtdmhngkedgkndaaDoorZb0MHa
namespace Go.Proofs.YtdmhngkedgkndaaDoor
open Go.RowKit
def s0 (x : Nat) : Nat := rr x 7 ^^^ rr x 18 ^^^ x / 8
def s1 (x : Nat) : Nat := rr x 17 ^^^ rr x 19 ^^^ x / 1024
/-- The number of m bytes of word j, the greatest first. -/
def acc (b : Nat → Nat) (j : Nat) : Nat → Nat
  | 0 => 0
  | m + 1 => acc b j m * 256 + b (4 * j + m)
theorem acc_lt (b : Nat → Nat) (hb : ∀ i, b i < 256) (j : Nat) : ∀ m, acc b j m < 256 ^ m
  | 0 => by simp [acc]
  | m + 1 => by
    have h1 := acc_lt b hb j m
    have h2 := hb (4 * j + m)
    unfold acc
    rw [Nat.pow_succ]
    omega
/-- The first n words for the rounds, out of a block's bytes, the last one first. -/
def wdl (b : Nat → Nat) : Nat → List Nat
  | 0 => []
  | n + 1 => (if n < 16 then acc b n 4 else ((wdl b n).getD 15 0 + s0 ((wdl b n).getD 14 0) + (wdl b n).getD 6 0 + s1 ((wdl b n).getD 1 0)) % 4294967296) :: wdl b n
def wd (b : Nat → Nat) (i : Nat) : Nat := (wdl b (i + 1)).getD 0 0
theorem wdl_get (b : Nat → Nat) : ∀ n j, j < n → (wdl b n).getD j 0 = wd b (n - 1 - j)
  | n + 1, 0, _ => rfl
  | n + 1, j + 1, h => by
    show (wdl b n).getD j 0 = _
    rw [wdl_get b n j (by omega)]
    congr 1
    omega
theorem wd_low (b : Nat → Nat) (i : Nat) (h : i < 16) : wd b i = acc b i 4 := if_pos h
theorem wd_high (b : Nat → Nat) (i : Nat) (h : 16 ≤ i) : wd b i = (wd b (i - 16) + s0 (wd b (i - 15)) + wd b (i - 7) + s1 (wd b (i - 2))) % 4294967296 := by
  have e : wd b i = ((wdl b i).getD 15 0 + s0 ((wdl b i).getD 14 0) + (wdl b i).getD 6 0 + s1 ((wdl b i).getD 1 0)) % 4294967296 := if_neg (by omega)
  rw [e, wdl_get b i 15 (by omega), wdl_get b i 14 (by omega), wdl_get b i 6 (by omega), wdl_get b i 1 (by omega)]
  rfl
theorem wd_lt (b : Nat → Nat) (hb : ∀ i, b i < 256) (i : Nat) : wd b i < 4294967296 := by
  by_cases h : i < 16
  · rw [wd_low b i h]
    exact acc_lt b hb i 4
  · rw [wd_high b i (by omega)]
    exact Nat.mod_lt _ (by decide)
/-- What word j is behind k bytes. -/
def part (b : Nat → Nat) (k j : Nat) : Nat := acc b j (min 4 (k - 4 * j))
/-- n bytes in block gb, from cell o on. -/
structure By (w : World) (gb o n : Nat) (f : Nat → Nat) : Prop where
  cell : ∀ i, i < n → w.cell? ⟨gb, o + i, none⟩ = some (.int .u8 ((f i : Nat) : Int))
  lt : ∀ i, f i < 256
  blk : gb < w.heap.size
theorem By.below {w w1 : World} {gb o n : Nat} {f : Nat → Nat} (h : By w gb o n f) (hb : Below w.heap.size w w1) : By w1 gb o n f :=
  ⟨fun i hi => (hb.cell (p := ⟨gb, o + i, none⟩) h.blk).trans (h.cell i hi), h.lt, Nat.lt_of_lt_of_le h.blk hb.size⟩
theorem By.far {w : World} {gb o n : Nat} {f : Nat → Nat} (h : By w gb o n f) {p : Addr} (hp : gb ≠ p.block) (v : Value) : By (w.setCell p v) gb o n f :=
  ⟨fun i hi => (World.cell?_setCell_other w p ⟨gb, o + i, none⟩ v (fun e => hp (by rw [e]))).trans (h.cell i hi), h.lt, by simpa [World.setCell] using h.blk⟩
theorem By.drew {w : World} {gb o n : Nat} {f : Nat → Nat} (h : By w gb o n f) : By w.drew gb o n f := ⟨h.cell, h.lt, h.blk⟩
/-- The memory of spread256: 64 words. -/
structure SpW (gb o : Nat) (b : Nat → Nat) (w wr : World) (F : Nat → Nat) : Prop where
  by_ : By wr gb o 64 b
  res : Blk wr w.heap.size 82 (Iv .u32 (List.replicate 64 0))
  out : Blk wr (w.heap.size + 1) 82 (Iv .u32 ((List.range 64).map fun j => ((F j : Nat) : Int)))
  k : Below w.heap.size w wr
  la : gb < w.heap.size
theorem SpW.drew {gb o : Nat} {b : Nat → Nat} {w wr : World} {F : Nat → Nat} (h : SpW gb o b w wr F) : SpW gb o b w wr.drew F := ⟨h.by_.drew, h.res, h.out, below_drew h.k, h.la⟩
theorem SpW.set {gb o : Nat} {b : Nat → Nat} {w wr : World} {F : Nat → Nat} (h : SpW gb o b w wr F) (j v : Nat) (G : Nat → Nat) (hv : G j = v) (ho : ∀ i, i ≠ j → G i = F i) : SpW gb o b w (wr.setCell ⟨w.heap.size + 1, j, none⟩ (.int .u32 ((v : Nat) : Int))) G := by
  have hla := h.la
  refine ⟨h.by_.far (by simp; omega) _, h.res.far (by simp) _, ?_, h.k.setCell (by simp) _, h.la⟩
  have hs := h.out.set j (.int .u32 ((v : Nat) : Int))
  rw [Iv_set] at hs
  have e : ((List.range 64).map fun i => ((F i : Nat) : Int)).set j ((v : Nat) : Int) = (List.range 64).map fun i => ((G i : Nat) : Int) := by
    apply List.ext_getElem (by simp)
    intro i h1 h2
    simp only [List.getElem_set, List.getElem_map, List.getElem_range]
    by_cases hj : j = i
    · rw [if_pos hj, ← hj, hv]
    · rw [if_neg hj, ho i (fun e => hj e.symm)]
  rw [e] at hs
  exact hs
theorem SpW.cell {gb o : Nat} {b : Nat → Nat} {w wr : World} {F : Nat → Nat} (h : SpW gb o b w wr F) (j : Nat) (hj : j < 64) : wr.cell? ⟨w.heap.size + 1, j, none⟩ = some (.int .u32 ((F j : Nat) : Int)) := by
  rw [h.out.cell, Iv_get _ _ _ (by simp; omega)]
  simp [hj]
theorem part_zero (b : Nat → Nat) (j : Nat) : part b 0 j = 0 := by unfold part; rw [Nat.zero_sub, Nat.min_zero]; rfl
theorem part_other (b : Nat → Nat) (k j : Nat) (h : j ≠ k / 4) : part b (k + 1) j = part b k j := by
  unfold part
  congr 1
  omega
theorem part_here (b : Nat → Nat) (k : Nat) : part b (k + 1) (k / 4) = part b k (k / 4) * 256 + b k := by
  unfold part
  rw [show min 4 (k + 1 - 4 * (k / 4)) = min 4 (k - 4 * (k / 4)) + 1 by omega]
  show acc b (k / 4) _ * 256 + b (4 * (k / 4) + _) = _
  rw [show 4 * (k / 4) + min 4 (k - 4 * (k / 4)) = k by omega]
theorem part_lt (b : Nat → Nat) (hb : ∀ i, b i < 256) (k : Nat) : part b k (k / 4) < 16777216 := by
  unfold part
  refine Nat.lt_of_lt_of_le (acc_lt b hb _ _) ?_
  have : (256 : Nat) ^ min 4 (k - 4 * (k / 4)) ≤ 256 ^ 3 := Nat.pow_le_pow_right (by decide) (by omega)
  exact this
theorem or_byte8 (v b : Nat) (hv : v < 16777216) (hb : b < 256) : bits .or .u32 ((v : Int) * 256 % 4294967296) (b : Int) = ((v * 256 + b : Nat) : Int) := by
  rw [or32 8 _ _ (by omega) (by omega) (by omega) (by omega) (by omega) (by decide)]
  omega
theorem part_full (b : Nat → Nat) (j : Nat) (h : j < 16) : part b 64 j = acc b j 4 := by
  unfold part
  rw [show min 4 (64 - 4 * j) = 4 by omega]
/-- What the words are behind round i. -/
def upto (b : Nat → Nat) (k i : Nat) : Nat := if i < k then wd b i else 0
set_option maxHeartbeats 2000000 in
set_option maxRecDepth 100000 in
theorem spread256_any (gb o c : Nat) (b : Nat → Nat) (w : World) (hb : By w gb o 64 b) :
    Calls Tryd.prog 46 #[.slice (some ⟨gb, o, none⟩) 64 c] w fun e w' => e = .returned (.agg (Iv .u32 ((List.range 64).map fun j => ((wd b j : Nat) : Int)))) ∧ Below w.heap.size w w' := by
  go_enter Tryd.func46, Tryd.ntmps46
  go_wp2_with fail
  generalize hW : World.alloc (World.alloc w _) _ = W
  have F0 : SpW gb o b w W (part b 0) := by
    have e : (List.range 64).map (fun j => ((part b 0 j : Nat) : Int)) = List.replicate 64 0 := by
      simp only [part_zero]
      rfl
    subst hW
    refine ⟨hb.below (((Below.refl _ _).alloc (Nat.le_refl _) _).alloc (by simp) _), (Blk.new _ _ _).alloc _, ?_, ((Below.refl _ _).alloc (Nat.le_refl _) _).alloc (by simp) _, hb.blk⟩
    rw [e]
    exact Blk.new' (by simp) _ _
  clear hW
  go_loopw [12] (fun i wr => ∃ k : Nat, k ≤ 64 ∧ i = .int .i64 k ∧ SpW gb o b w wr (part b k)) (fun i _ => 64 - (intOf i).toNat)
  case atStart => exact ⟨0, by omega, rfl, F0⟩
  case round =>
    obtain ⟨k, hk, rfl, F⟩ := hrel
    clear F0
    by_cases hlt : k < 64
    · go_wp2
      refine wp_region_still_tail 14 (by kernel_rfl) (by kernel_rfl) ?_
      simp only [List.take_succ_cons, List.take_zero, List.drop_succ_cons, List.drop_zero]
      change wpStill _ _ (World.drew wr) (fun a' => wpList _ _ _ _ a' (World.drew wr)) _ _
      have G := F.drew
      clear F
      generalize World.drew wr = V at G ⊢
      have c4 := G.cell (k / 4) (by omega)
      have c5 : V.cell? ⟨gb, o + k, none⟩ = some (.int .u8 ((b k : Nat) : Int)) := G.by_.cell k hlt
      have f4 := G.out.frozen (k / 4)
      have bk := hb.lt k
      have lp := part_lt b hb.lt k
      have ho := or_byte8 _ _ lp bk
      have hp := part_here b k
      obtain ⟨P, hP⟩ : ∃ P, P = part b k (k / 4) := ⟨_, rfl⟩
      rw [← hP] at c4 lp ho hp
      have i1 : (0 : Int) ≤ (k : Int) := by omega
      have i2 : (k : Int) < 64 := by omega
      have i3 : (0 : Int) ≤ (k : Int) / 4 := by omega
      have i4 : (k : Int) / 4 < 64 := by omega
      have i5 : ((k : Int) / 4).toNat = k / 4 := by omega
      have i6 : IntKind.i64.wrap ((k : Int) / 4) = (k : Int) / 4 := by rw [IntKind.wrap_i64]; omega
      have j0 : IntKind.u32.wrap ((b k : Nat) : Int) = ((b k : Nat) : Int) := by rw [IntKind.wrap_u32]; omega
      have HO := Lib.hid ho
      have G2 := Lib.hid (G.set (k / 4) (P * 256 + b k) (part b (k + 1)) hp (fun i hi => part_other b k i hi))
      clear ho hp hP lp
      repeat still_step
      refine wpStill_nil ?_
      clear i3 i4 i5 i6 j0
      go_wp2
      rw [HO.out]
      exact ⟨⟨k + 1, by omega, by go_num, G2.out⟩, by simp [intOf]; omega⟩
    · obtain rfl : k = 64 := by omega
      have F1 : SpW gb o b w wr (upto b 16) := by
        have e : part b 64 = upto b 16 := by
          funext j
          unfold upto
          by_cases hj : j < 16
          · rw [if_pos hj, part_full b j hj, wd_low b j hj]
          · rw [if_neg hj]
            unfold part
            rw [show min 4 (64 - 4 * j) = 0 by omega]
            rfl
        exact e ▸ F
      clear F hlt hk
      rw [show ((64 : Nat) : Int) = 64 from rfl]
      go_wp2
      go_loopw [5, 6, 7, 8, 9] (fun i _ _ _ _ wr => ∃ k : Nat, 16 ≤ k ∧ k ≤ 64 ∧ i = .int .i64 k ∧ SpW gb o b w wr (upto b k)) (fun i _ _ _ _ _ => 64 - (intOf i).toNat)
      case atStart => exact ⟨16, by omega, by omega, rfl, F1⟩
      case round =>
        obtain ⟨k, hk0, hk, rfl, F⟩ := hrel
        clear F1
        by_cases hlt : k < 64
        · have hw := wd_high b k hk0
          go_upto_region 10 with fail
          refine wp_region_S (S := fun w' => w' = World.drew wr) (by kernel_rfl) ?_
          have G := F.drew
          clear F
          generalize World.drew wr = V at G ⊢
          have l1 := wd_lt b hb.lt (k - 15)
          have l2 := wd_lt b hb.lt (k - 2)
          have c1 := G.cell (k - 15) (by omega)
          have c2 := G.cell (k - 2) (by omega)
          rw [show upto b k (k - 15) = wd b (k - 15) from if_pos (by omega)] at c1
          rw [show upto b k (k - 2) = wd b (k - 2) from if_pos (by omega)] at c2
          obtain ⟨X, hX⟩ : ∃ X, X = wd b (k - 15) := ⟨_, rfl⟩
          obtain ⟨Y, hY⟩ : ∃ Y, Y = wd b (k - 2) := ⟨_, rfl⟩
          rw [← hX] at c1 l1 hw
          rw [← hY] at c2 l2 hw
          have HW := Lib.hid hw
          clear hw hX hY
          have i1 : IntKind.i64.wrap ((k : Int) - 15) = ((k - 15 : Nat) : Int) := by rw [IntKind.wrap_i64]; omega
          have i2 : IntKind.i64.wrap ((k : Int) - 2) = ((k - 2 : Nat) : Int) := by rw [IntKind.wrap_i64]; omega
          have j1 : ((k - 15 : Nat) : Int) < 64 := by omega
          have j2 : ((k - 2 : Nat) : Int) < 64 := by omega
          have hS : (fun w' => w' = V) V := rfl
          refine wpAnyS_takeL 0 (v := ?_) rfl (by kernel_rfl) (by kernel_rfl) (by kernel_rfl) (fun _ _ _ h => h) (Or.inl ⟨by rfl, ?_⟩) hS ?_
          rotate_left
          · intro w' hw'
            obtain rfl : w' = V := hw'
            go_simp
            try (with_reducible rfl)
          simp only [Act.put, List.setIfInBounds_toArray, List.set_cons_zero, List.set_cons_succ]
          refine wpAnyS_takeL 1 (v := ?_) rfl (by kernel_rfl) (by kernel_rfl) (by kernel_rfl) (fun _ _ _ h => h) (Or.inl ⟨by rfl, ?_⟩) hS ?_
          rotate_left
          · intro w' hw'
            obtain rfl : w' = V := hw'
            go_simp
            try (with_reducible rfl)
          simp only [Act.put, List.setIfInBounds_toArray, List.set_cons_zero, List.set_cons_succ]
          refine wpAnyS_takeL 2 (v := ?_) rfl (by kernel_rfl) (by kernel_rfl) (by kernel_rfl) (fun _ _ _ h => h) (Or.inl ⟨by rfl, ?_⟩) hS ?_
          rotate_left
          · intro w' hw'
            obtain rfl : w' = V := hw'
            go_simp
            try (with_reducible rfl)
          simp only [Act.put, List.setIfInBounds_toArray, List.set_cons_zero, List.set_cons_succ]
          refine wpAnyS_takeL 3 (v := ?_) rfl (by kernel_rfl) (by kernel_rfl) (by kernel_rfl) (fun _ _ _ h => h) (Or.inl ⟨by rfl, ?_⟩) hS ?_
          rotate_left
          · intro w' hw'
            obtain rfl : w' = V := hw'
            go_simp
            try (with_reducible rfl)
          simp only [Act.put, List.setIfInBounds_toArray, List.set_cons_zero, List.set_cons_succ]
          refine wpAnyS_takeL 4 (v := ?_) rfl (by kernel_rfl) (by kernel_rfl) (by kernel_rfl) (fun _ _ _ h => h) (Or.inl ⟨by rfl, ?_⟩) hS ?_
          rotate_left
          · intro w' hw'
            obtain rfl : w' = V := hw'
            go_simp
            try (with_reducible rfl)
          simp only [Act.put, List.setIfInBounds_toArray, List.set_cons_zero, List.set_cons_succ]
          refine wpAnyS_takeL 5 (v := ?_) rfl (by kernel_rfl) (by kernel_rfl) (by kernel_rfl) (fun _ _ _ h => h) (Or.inl ⟨by rfl, ?_⟩) hS ?_
          rotate_left
          · intro w' hw'
            obtain rfl : w' = V := hw'
            go_simp
            try (with_reducible rfl)
          simp only [Act.put, List.setIfInBounds_toArray, List.set_cons_zero, List.set_cons_succ]
          refine wpAnyS_takeL 6 (v := ?_) rfl (by kernel_rfl) (by kernel_rfl) (by kernel_rfl) (fun _ _ _ h => h) (Or.inl ⟨by rfl, ?_⟩) hS ?_
          rotate_left
          · intro w' hw'
            obtain rfl : w' = V := hw'
            go_simp
            try (with_reducible rfl)
          simp only [Act.put, List.setIfInBounds_toArray, List.set_cons_zero, List.set_cons_succ]
          refine wpAnyS_takeL 7 (v := ?_) rfl (by kernel_rfl) (by kernel_rfl) (by kernel_rfl) (fun _ _ _ h => h) (Or.inl ⟨by rfl, ?_⟩) hS ?_
          rotate_left
          · intro w' hw'
            obtain rfl : w' = V := hw'
            go_simp
            try (with_reducible rfl)
          simp only [Act.put, List.setIfInBounds_toArray, List.set_cons_zero, List.set_cons_succ]
          refine wpAnyS_takeL 8 rfl (by kernel_rfl) (by kernel_rfl) (by kernel_rfl) (fun _ _ _ h => h) (show YieldsIf _ _ _ _ (.int .u32 X) _ from yieldsIf_assign rfl _ rfl _ rfl) hS ?_
          simp only [Act.put, List.setIfInBounds_toArray, List.set_cons_zero, List.set_cons_succ]
          refine wpAnyS_takeL 9 rfl (by kernel_rfl) (by kernel_rfl) (by kernel_rfl) (fun _ _ _ h => h) (show YieldsIf _ _ _ _ (.int .u32 Y) _ from yieldsIf_assign rfl _ rfl _ rfl) hS ?_
          simp only [Act.put, List.setIfInBounds_toArray, List.set_cons_zero, List.set_cons_succ]
          refine wpAnyS_done (by kernel_rfl) ?_ _
          clear c1 c2 i1 i2 j1 j2 hS
          have R1 : Hid (∀ W, Calls Tryd.prog 47 #[.int .u32 X, .int .i64 7] W fun e w' => e = .returned (.int .u32 ((rr X 7 : Nat) : Int)) ∧ W = w') := Lib.hid fun W => right32_any X 7 W l1 (by decide) (by decide)
          have R2 : Hid (∀ W, Calls Tryd.prog 47 #[.int .u32 X, .int .i64 18] W fun e w' => e = .returned (.int .u32 ((rr X 18 : Nat) : Int)) ∧ W = w') := Lib.hid fun W => right32_any X 18 W l1 (by decide) (by decide)
          have R3 : Hid (∀ W, Calls Tryd.prog 47 #[.int .u32 Y, .int .i64 17] W fun e w' => e = .returned (.int .u32 ((rr Y 17 : Nat) : Int)) ∧ W = w') := Lib.hid fun W => right32_any Y 17 W l2 (by decide) (by decide)
          have R4 : Hid (∀ W, Calls Tryd.prog 47 #[.int .u32 Y, .int .i64 19] W fun e w' => e = .returned (.int .u32 ((rr Y 19 : Nat) : Int)) ∧ W = w') := Lib.hid fun W => right32_any Y 19 W l2 (by decide) (by decide)
          have E0 : Hid (bits .xor .u32 (bits .xor .u32 ((rr X 7 : Nat) : Int) ((rr X 18 : Nat) : Int)) ((X : Int) / 8) = ((s0 X : Nat) : Int)) := Lib.hid (by
            have a1 := rr_lt X 7 l1 (by decide) (by decide)
            have a2 := rr_lt X 18 l1 (by decide) (by decide)
            rw [show (X : Int) / 8 = ((X / 8 : Nat) : Int) by omega, u32_xor_nat _ _ a1 a2, u32_xor_nat _ _ (xor_lt _ _ a1 a2) (by omega)]
            rfl)
          have E1 : Hid (bits .xor .u32 (bits .xor .u32 ((rr Y 17 : Nat) : Int) ((rr Y 19 : Nat) : Int)) ((Y : Int) / 1024) = ((s1 Y : Nat) : Int)) := Lib.hid (by
            have a1 := rr_lt Y 17 l2 (by decide) (by decide)
            have a2 := rr_lt Y 19 l2 (by decide) (by decide)
            rw [show (Y : Int) / 1024 = ((Y / 1024 : Nat) : Int) by omega, u32_xor_nat _ _ a1 a2, u32_xor_nat _ _ (xor_lt _ _ a1 a2) (by omega)]
            rfl)
          go_wp2_with fail
          refine (R1.out _).mono ?_
          rintro e w1 ⟨rfl, rfl⟩
          go_wp2_with fail
          refine (R2.out _).mono ?_
          rintro e w1 ⟨rfl, rfl⟩
          go_wp2_with fail
          refine (R3.out _).mono ?_
          rintro e w1 ⟨rfl, rfl⟩
          go_wp2_with fail
          refine (R4.out _).mono ?_
          rintro e w1 ⟨rfl, rfl⟩
          go_upto_region 13 with fail
          rw [E0.out, E1.out]
          clear R1 R2 R3 R4 E0 E1
          refine wp_region_still_tail 15 (by kernel_rfl) (by kernel_rfl) ?_
          simp only [List.take_succ_cons, List.take_zero, List.drop_succ_cons, List.drop_zero]
          change wpStill _ _ (World.drew V) (fun a' => wpList _ _ _ _ a' (World.drew V)) _ _
          have F := G.drew
          clear G
          generalize World.drew V = U at F ⊢
          have l3 := wd_lt b hb.lt (k - 16)
          have l4 := wd_lt b hb.lt (k - 7)
          have c3 := F.cell (k - 16) (by omega)
          have c4 := F.cell (k - 7) (by omega)
          have c5 := F.cell k hlt
          have f5 := F.out.frozen k
          rw [show upto b k (k - 16) = wd b (k - 16) from if_pos (by omega)] at c3
          rw [show upto b k (k - 7) = wd b (k - 7) from if_pos (by omega)] at c4
          rw [show upto b k k = 0 from if_neg (by omega)] at c5
          have F2 := Lib.hid (F.set k (wd b k) (upto b (k + 1)) (if_pos (by omega)) (fun i hi => by unfold upto; by_cases h : i < k <;> simp [h] <;> omega))
          obtain ⟨A, hA⟩ : ∃ A, A = wd b (k - 16) := ⟨_, rfl⟩
          obtain ⟨B, hB⟩ : ∃ B, B = wd b (k - 7) := ⟨_, rfl⟩
          obtain ⟨C, hC⟩ : ∃ C, C = wd b k := ⟨_, rfl⟩
          rw [← hA] at c3 l3
          rw [← hB] at c4 l4
          have HV : Hid (C = (A + s0 X + B + s1 Y) % 4294967296) := Lib.hid (by rw [hA, hB, hC]; exact HW.out)
          rw [← hC] at F2
          clear hA hB hC HW
          have i3 : IntKind.i64.wrap ((k : Int) - 16) = ((k - 16 : Nat) : Int) := by rw [IntKind.wrap_i64]; omega
          have i4 : IntKind.i64.wrap ((k : Int) - 7) = ((k - 7 : Nat) : Int) := by rw [IntKind.wrap_i64]; omega
          have j3 : ((k - 16 : Nat) : Int) < 64 := by omega
          have j4 : ((k - 7 : Nat) : Int) < 64 := by omega
          have j5 : (k : Int) < 64 := by omega
          have j6 : (0 : Int) ≤ (k : Int) := by omega
          repeat still_step
          refine wpStill_nil ?_
          clear i3 i4 j3 j4 c3 c4
          go_wp2
          refine ⟨⟨k + 1, by omega, by omega, by go_num, ?_⟩, by simp [intOf]; omega⟩
          have := F2.out
          rw [HV.out] at this
          have e : (((A + s0 X + B + s1 Y) % 4294967296 : Nat) : Int) = ((A : Int) + ((s0 X : Nat) : Int) + (B : Int) + ((s1 Y : Nat) : Int)) % 4294967296 := by omega
          rw [e] at this
          exact this
        · obtain rfl : k = 64 := by omega
          have HO := F.out
          have HR := F.res
          have HB := F.k
          have e : (List.range 64).map (fun j => ((upto b 64 j : Nat) : Int)) = (List.range 64).map fun j => ((wd b j : Nat) : Int) :=
            List.map_congr_left fun j hj => by rw [show upto b 64 j = wd b j from if_pos (List.mem_range.1 hj)]
          rw [e] at HO
          obtain ⟨L, hL⟩ : ∃ L : List Int, L = (List.range 64).map fun j => ((wd b j : Nat) : Int) := ⟨_, rfl⟩
          have lL : L.length = 64 := by rw [hL]; simp
          rw [← hL] at HO
          have HL := Lib.hid hL
          have iL : (Tryd.prog.info? 82).map (·.size) = some (Iv .u32 L).size := by
            rw [Iv_size, lL]
            kernel_rfl
          clear F e hL
          go_wp2_with (first | (refine wpList_load_row rfl 82 _ rfl (w.heap.size + 1) rfl 82 _ (0, 0) _ HO Tryd.underlying82 rfl iL ?_) | (refine wpList_store_row rfl 82 _ _ rfl (w.heap.size) (Iv .u32 L) rfl rfl 82 _ HR iL (by rw [Iv_size, Iv_size, lL]; rfl) (Iv_one _ _) ?_))
          exact bodyPost_ret (results_cell_row rfl _ _ _ 82 _ (0, 0) _ rfl (HR.row _) Tryd.underlying82 rfl iL) rfl ⟨by rw [HL.out], below_setRow HB (by omega) _⟩
end Go.Proofs.YtdmhngkedgkndaaDoor
