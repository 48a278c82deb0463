/- sha2's rounds: the contract of rounds256. -/
import Derived.Test.YtdmhngkedgkndaaDoorMHc
namespace Go.Proofs.YtdmhngkedgkndaaDoor
open Go.RowKit
theorem val_int {k : IntKind} {a b : Int} (h : a = b) : Value.int k a = .int k b := by rw [h]
structure S8 where
  a : Nat
  b : Nat
  c : Nat
  d : Nat
  e : Nat
  f : Nat
  g : Nat
  h : Nat
structure S8.Ok (s : S8) : Prop where
  a : s.a < 4294967296
  b : s.b < 4294967296
  c : s.c < 4294967296
  d : s.d < 4294967296
  e : s.e < 4294967296
  f : s.f < 4294967296
  g : s.g < 4294967296
  h : s.h < 4294967296
def g1 (x : Nat) : Nat := rr x 6 ^^^ rr x 11 ^^^ rr x 25
def g0 (x : Nat) : Nat := rr x 2 ^^^ rr x 13 ^^^ rr x 22
def tt (s : S8) (k w : Nat) : Nat := (s.h + g1 s.e + ei s.e s.f s.g + k + w) % 4294967296
def uu (s : S8) : Nat := (g0 s.a + ma s.a s.b s.c) % 4294967296
def rnd (s : S8) (k w : Nat) : S8 := ⟨(tt s k w + uu s) % 4294967296, s.a, s.b, s.c, (s.d + tt s k w) % 4294967296, s.e, s.f, s.g⟩
theorem rnd_ok {s : S8} (h : s.Ok) (k w : Nat) : (rnd s k w).Ok := ⟨Nat.mod_lt _ (by decide), h.a, h.b, h.c, Nat.mod_lt _ (by decide), h.e, h.f, h.g⟩
/-- The eight words behind so many rounds; cu: the table. -/
def rnds (cu : Nat → Nat) (hh b : Nat → Nat) : Nat → S8
  | 0 => ⟨hh 0, hh 1, hh 2, hh 3, hh 4, hh 5, hh 6, hh 7⟩
  | k + 1 => rnd (rnds cu hh b k) (cu k / 4294967296) (wd b k)
theorem rnds_ok (cu : Nat → Nat) (hh b : Nat → Nat) (h : ∀ i, i < 8 → hh i < 4294967296) : ∀ k, (rnds cu hh b k).Ok
  | 0 => ⟨h 0 (by decide), h 1 (by decide), h 2 (by decide), h 3 (by decide), h 4 (by decide), h 5 (by decide), h 6 (by decide), h 7 (by decide)⟩
  | k + 1 => rnd_ok (rnds_ok cu hh b h k) _ _
def S8.at (s : S8) (i : Nat) : Nat := match i with
  | 0 => s.a
  | 1 => s.b
  | 2 => s.c
  | 3 => s.d
  | 4 => s.e
  | 5 => s.f
  | 6 => s.g
  | _ => s.h
/-- The eight words, when a block has gone into them. -/
def comp (cu : Nat → Nat) (hh b : Nat → Nat) (i : Nat) : Nat := (hh i + (rnds cu hh b 64).at i) % 4294967296
/-- The table of the third roots in memory. -/
structure Tab (w : World) (cu : Nat → Nat) : Prop where
  cell : ∀ i, i < 80 → w.cell? ⟨3, i, none⟩ = some (.int .u64 ((cu i : Nat) : Int))
  lt : ∀ i, cu i < 18446744073709551616
  blk : 3 < w.heap.size
theorem Tab.below {w w1 : World} {cu : Nat → Nat} (h : Tab w cu) (hb : Below w.heap.size w w1) : Tab w1 cu :=
  ⟨fun i hi => (hb.cell (p := ⟨3, i, none⟩) h.blk).trans (h.cell i hi), h.lt, Nat.lt_of_lt_of_le h.blk hb.size⟩
def WL (b : Nat → Nat) : List Int := (List.range 64).map fun j => ((wd b j : Nat) : Int)
theorem WL_length (b : Nat → Nat) : (WL b).length = 64 := by simp [WL]
theorem info_WL (b : Nat → Nat) : (Tryd.prog.info? 82).map (·.size) = some (Iv .u32 (WL b)).size := by
  rw [Iv_size, WL_length]
  kernel_rfl
/-- The memory of rounds256. -/
structure RdW (cu hh b : Nat → Nat) (G : Nat) (w wr : World) : Prop where
  a : Blk wr w.heap.size 71 (Iv .u32 (W8 hh))
  r : Blk wr (w.heap.size + 1) 71 (Iv .u32 (List.replicate 8 0))
  ws : Blk wr G 82 (Iv .u32 (WL b))
  tab : Tab wr cu
  k : Below w.heap.size w wr
theorem RdW.drew {cu hh b : Nat → Nat} {G : Nat} {w wr : World} (h : RdW cu hh b G w wr) : RdW cu hh b G w wr.drew := ⟨h.a, h.r, h.ws, h.tab.below (below_drew (Below.refl _ _)), below_drew h.k⟩
set_option maxHeartbeats 4000000 in
set_option maxRecDepth 100000 in
theorem rounds256_any (cu hh b : Nat → Nat) (gb o c : Nat) (w : World) (hb : By w gb o 64 b) (ht : Tab w cu) (hl : ∀ i, i < 8 → hh i < 4294967296) :
    Calls Tryd.prog 38 #[V8 hh, .slice (some ⟨gb, o, none⟩) 64 c] w fun e w' => e = .returned (V8 (comp cu hh b)) ∧ Below w.heap.size w w' := by
  unfold V8
  have cS : Hid (∀ W, By W gb o 64 b → Calls Tryd.prog 46 #[.slice (some ⟨gb, o, none⟩) 64 c] W fun e w' => e = .returned (.agg (Iv .u32 (WL b))) ∧ Below W.heap.size W w') := Lib.hid fun W h => spread256_any gb o c b W h
  obtain ⟨L8, hL8⟩ : ∃ L : List Int, L = W8 hh := ⟨_, rfl⟩
  go_enter Tryd.func38, Tryd.ntmps38
  go_wp2_with fail
  have hA := (Blk.new w 71 (Iv .u32 (W8 hh))).alloc (.cells (Iv .u32 (List.replicate 8 0)) 71)
  have hR := Blk.new' (w := w.alloc (.cells (Iv .u32 (W8 hh)) 71)) (g := w.heap.size + 1) (by simp) 71 (Iv .u32 (List.replicate 8 0))
  have hB := ((Below.refl w.heap.size w).alloc (Nat.le_refl _) (.cells (Iv .u32 (W8 hh)) 71)).alloc (by simp) (.cells (Iv .u32 (List.replicate 8 0)) 71)
  have hT := ht.below hB
  have hb0 := hb.lt
  replace hb := hb.below hB
  refine (cS.out _ hb).mono ?_
  rintro e w1 ⟨rfl, b1⟩
  replace hA := hA.below' b1
  replace hR := hR.below' b1
  replace hB := hB.trans (b1.mono hB.size)
  replace hT := hT.below b1
  clear b1 cS
  go_upto_region 2 with (first | (refine wpList_store_row rfl 82 _ _ rfl (w1.heap.size) (Iv .u32 (WL b)) rfl rfl 82 _ (Blk.new _ _ _) (info_WL b) (by rw [Iv_size, WL_length]; rfl) (Iv_one _ _) ?_))
  generalize hW : World.setRow _ _ _ = V0
  have F0 : RdW cu hh b w1.heap.size w V0 := by
    subst hW
    have b2 := below_setRow ((Below.refl w1.heap.size w1).alloc (Nat.le_refl _) (.cells (Iv .u32 (List.replicate 64 0)) 82)) (Nat.le_refl w1.heap.size) (Iv .u32 (WL b))
    exact ⟨hA.below' b2, hR.below' b2, (Blk.new _ _ _).row _, hT.below b2, hB.trans (b2.mono hB.size)⟩
  clear hW hA hR hB hT hb
  generalize w1.heap.size = GW at *
  refine wp_region_S (S := fun w' => w' = World.drew V0) (by kernel_rfl) ?_
  replace F0 := F0.drew
  generalize World.drew V0 = V at F0 ⊢
  have c0 : V.cell? ⟨w.heap.size, 0, none⟩ = _ := (F0.a.cell 0).trans (W8_get hh 0 (by decide))
  have c1 : V.cell? ⟨w.heap.size, 1, none⟩ = _ := (F0.a.cell 1).trans (W8_get hh 1 (by decide))
  have c2 : V.cell? ⟨w.heap.size, 2, none⟩ = _ := (F0.a.cell 2).trans (W8_get hh 2 (by decide))
  have c3 : V.cell? ⟨w.heap.size, 3, none⟩ = _ := (F0.a.cell 3).trans (W8_get hh 3 (by decide))
  have c4 : V.cell? ⟨w.heap.size, 4, none⟩ = _ := (F0.a.cell 4).trans (W8_get hh 4 (by decide))
  have c5 : V.cell? ⟨w.heap.size, 5, none⟩ = _ := (F0.a.cell 5).trans (W8_get hh 5 (by decide))
  have c6 : V.cell? ⟨w.heap.size, 6, none⟩ = _ := (F0.a.cell 6).trans (W8_get hh 6 (by decide))
  have c7 : V.cell? ⟨w.heap.size, 7, none⟩ = _ := (F0.a.cell 7).trans (W8_get hh 7 (by decide))
  have hS : (fun w' => w' = V) V := rfl
  refine wpAnyS_takeL 0 (v := ?_) rfl (by kernel_rfl) (by kernel_rfl) (by kernel_rfl) (fun _ _ _ h => h) (Or.inl ⟨by rfl, ?_⟩) hS ?_
  rotate_left
  · intro w' hw'
    obtain rfl : w' = V := hw'
    go_simp
    try (with_reducible rfl)
  simp only [Act.put, List.setIfInBounds_toArray, List.set_cons_zero, List.set_cons_succ]
  refine wpAnyS_takeL 1 (v := ?_) rfl (by kernel_rfl) (by kernel_rfl) (by kernel_rfl) (fun _ _ _ h => h) (Or.inl ⟨by rfl, ?_⟩) hS ?_
  rotate_left
  · intro w' hw'
    obtain rfl : w' = V := hw'
    go_simp
    try (with_reducible rfl)
  simp only [Act.put, List.setIfInBounds_toArray, List.set_cons_zero, List.set_cons_succ]
  refine wpAnyS_takeL 2 (v := ?_) rfl (by kernel_rfl) (by kernel_rfl) (by kernel_rfl) (fun _ _ _ h => h) (Or.inl ⟨by rfl, ?_⟩) hS ?_
  rotate_left
  · intro w' hw'
    obtain rfl : w' = V := hw'
    go_simp
    try (with_reducible rfl)
  simp only [Act.put, List.setIfInBounds_toArray, List.set_cons_zero, List.set_cons_succ]
  refine wpAnyS_takeL 3 (v := ?_) rfl (by kernel_rfl) (by kernel_rfl) (by kernel_rfl) (fun _ _ _ h => h) (Or.inl ⟨by rfl, ?_⟩) hS ?_
  rotate_left
  · intro w' hw'
    obtain rfl : w' = V := hw'
    go_simp
    try (with_reducible rfl)
  simp only [Act.put, List.setIfInBounds_toArray, List.set_cons_zero, List.set_cons_succ]
  refine wpAnyS_takeL 4 (v := ?_) rfl (by kernel_rfl) (by kernel_rfl) (by kernel_rfl) (fun _ _ _ h => h) (Or.inl ⟨by rfl, ?_⟩) hS ?_
  rotate_left
  · intro w' hw'
    obtain rfl : w' = V := hw'
    go_simp
    try (with_reducible rfl)
  simp only [Act.put, List.setIfInBounds_toArray, List.set_cons_zero, List.set_cons_succ]
  refine wpAnyS_takeL 5 (v := ?_) rfl (by kernel_rfl) (by kernel_rfl) (by kernel_rfl) (fun _ _ _ h => h) (Or.inl ⟨by rfl, ?_⟩) hS ?_
  rotate_left
  · intro w' hw'
    obtain rfl : w' = V := hw'
    go_simp
    try (with_reducible rfl)
  simp only [Act.put, List.setIfInBounds_toArray, List.set_cons_zero, List.set_cons_succ]
  refine wpAnyS_takeL 6 (v := ?_) rfl (by kernel_rfl) (by kernel_rfl) (by kernel_rfl) (fun _ _ _ h => h) (Or.inl ⟨by rfl, ?_⟩) hS ?_
  rotate_left
  · intro w' hw'
    obtain rfl : w' = V := hw'
    go_simp
    try (with_reducible rfl)
  simp only [Act.put, List.setIfInBounds_toArray, List.set_cons_zero, List.set_cons_succ]
  refine wpAnyS_takeL 7 (v := ?_) rfl (by kernel_rfl) (by kernel_rfl) (by kernel_rfl) (fun _ _ _ h => h) (Or.inl ⟨by rfl, ?_⟩) hS ?_
  rotate_left
  · intro w' hw'
    obtain rfl : w' = V := hw'
    go_simp
    try (with_reducible rfl)
  simp only [Act.put, List.setIfInBounds_toArray, List.set_cons_zero, List.set_cons_succ]
  refine wpAnyS_takeL 8 (v := ?_) rfl (by kernel_rfl) (by kernel_rfl) (by kernel_rfl) (fun _ _ _ h => h) (Or.inl ⟨by rfl, ?_⟩) hS ?_
  rotate_left
  · intro w' hw'
    obtain rfl : w' = V := hw'
    go_simp
    try (with_reducible rfl)
  simp only [Act.put, List.setIfInBounds_toArray, List.set_cons_zero, List.set_cons_succ]
  refine wpAnyS_takeL 9 (v := ?_) rfl (by kernel_rfl) (by kernel_rfl) (by kernel_rfl) (fun _ _ _ h => h) (Or.inl ⟨by rfl, ?_⟩) hS ?_
  rotate_left
  · intro w' hw'
    obtain rfl : w' = V := hw'
    go_simp
    try (with_reducible rfl)
  simp only [Act.put, List.setIfInBounds_toArray, List.set_cons_zero, List.set_cons_succ]
  refine wpAnyS_takeL 10 (v := ?_) rfl (by kernel_rfl) (by kernel_rfl) (by kernel_rfl) (fun _ _ _ h => h) (Or.inl ⟨by rfl, ?_⟩) hS ?_
  rotate_left
  · intro w' hw'
    obtain rfl : w' = V := hw'
    go_simp
    try (with_reducible rfl)
  simp only [Act.put, List.setIfInBounds_toArray, List.set_cons_zero, List.set_cons_succ]
  refine wpAnyS_takeL 11 (v := ?_) rfl (by kernel_rfl) (by kernel_rfl) (by kernel_rfl) (fun _ _ _ h => h) (Or.inl ⟨by rfl, ?_⟩) hS ?_
  rotate_left
  · intro w' hw'
    obtain rfl : w' = V := hw'
    go_simp
    try (with_reducible rfl)
  simp only [Act.put, List.setIfInBounds_toArray, List.set_cons_zero, List.set_cons_succ]
  refine wpAnyS_takeL 12 (v := ?_) rfl (by kernel_rfl) (by kernel_rfl) (by kernel_rfl) (fun _ _ _ h => h) (Or.inl ⟨by rfl, ?_⟩) hS ?_
  rotate_left
  · intro w' hw'
    obtain rfl : w' = V := hw'
    go_simp
    try (with_reducible rfl)
  simp only [Act.put, List.setIfInBounds_toArray, List.set_cons_zero, List.set_cons_succ]
  refine wpAnyS_takeL 13 (v := ?_) rfl (by kernel_rfl) (by kernel_rfl) (by kernel_rfl) (fun _ _ _ h => h) (Or.inl ⟨by rfl, ?_⟩) hS ?_
  rotate_left
  · intro w' hw'
    obtain rfl : w' = V := hw'
    go_simp
    try (with_reducible rfl)
  simp only [Act.put, List.setIfInBounds_toArray, List.set_cons_zero, List.set_cons_succ]
  refine wpAnyS_takeL 14 (v := ?_) rfl (by kernel_rfl) (by kernel_rfl) (by kernel_rfl) (fun _ _ _ h => h) (Or.inl ⟨by rfl, ?_⟩) hS ?_
  rotate_left
  · intro w' hw'
    obtain rfl : w' = V := hw'
    go_simp
    try (with_reducible rfl)
  simp only [Act.put, List.setIfInBounds_toArray, List.set_cons_zero, List.set_cons_succ]
  refine wpAnyS_takeL 15 (v := ?_) rfl (by kernel_rfl) (by kernel_rfl) (by kernel_rfl) (fun _ _ _ h => h) (Or.inl ⟨by rfl, ?_⟩) hS ?_
  rotate_left
  · intro w' hw'
    obtain rfl : w' = V := hw'
    go_simp
    try (with_reducible rfl)
  simp only [Act.put, List.setIfInBounds_toArray, List.set_cons_zero, List.set_cons_succ]
  refine wpAnyS_takeL 16 (v := ?_) rfl (by kernel_rfl) (by kernel_rfl) (by kernel_rfl) (fun _ _ _ h => h) (Or.inl ⟨by rfl, ?_⟩) hS ?_
  rotate_left
  · intro w' hw'
    obtain rfl : w' = V := hw'
    go_simp
    try (with_reducible rfl)
  simp only [Act.put, List.setIfInBounds_toArray, List.set_cons_zero, List.set_cons_succ]
  refine wpAnyS_takeL 17 (v := ?_) rfl (by kernel_rfl) (by kernel_rfl) (by kernel_rfl) (fun _ _ _ h => h) (Or.inl ⟨by rfl, ?_⟩) hS ?_
  rotate_left
  · intro w' hw'
    obtain rfl : w' = V := hw'
    go_simp
    try (with_reducible rfl)
  simp only [Act.put, List.setIfInBounds_toArray, List.set_cons_zero, List.set_cons_succ]
  refine wpAnyS_takeL 18 (v := ?_) rfl (by kernel_rfl) (by kernel_rfl) (by kernel_rfl) (fun _ _ _ h => h) (Or.inl ⟨by rfl, ?_⟩) hS ?_
  rotate_left
  · intro w' hw'
    obtain rfl : w' = V := hw'
    go_simp
    try (with_reducible rfl)
  simp only [Act.put, List.setIfInBounds_toArray, List.set_cons_zero, List.set_cons_succ]
  refine wpAnyS_takeL 19 (v := ?_) rfl (by kernel_rfl) (by kernel_rfl) (by kernel_rfl) (fun _ _ _ h => h) (Or.inl ⟨by rfl, ?_⟩) hS ?_
  rotate_left
  · intro w' hw'
    obtain rfl : w' = V := hw'
    go_simp
    try (with_reducible rfl)
  simp only [Act.put, List.setIfInBounds_toArray, List.set_cons_zero, List.set_cons_succ]
  refine wpAnyS_takeL 20 (v := ?_) rfl (by kernel_rfl) (by kernel_rfl) (by kernel_rfl) (fun _ _ _ h => h) (Or.inl ⟨by rfl, ?_⟩) hS ?_
  rotate_left
  · intro w' hw'
    obtain rfl : w' = V := hw'
    go_simp
    try (with_reducible rfl)
  simp only [Act.put, List.setIfInBounds_toArray, List.set_cons_zero, List.set_cons_succ]
  refine wpAnyS_takeL 21 (v := ?_) rfl (by kernel_rfl) (by kernel_rfl) (by kernel_rfl) (fun _ _ _ h => h) (Or.inl ⟨by rfl, ?_⟩) hS ?_
  rotate_left
  · intro w' hw'
    obtain rfl : w' = V := hw'
    go_simp
    try (with_reducible rfl)
  simp only [Act.put, List.setIfInBounds_toArray, List.set_cons_zero, List.set_cons_succ]
  refine wpAnyS_takeL 22 (v := ?_) rfl (by kernel_rfl) (by kernel_rfl) (by kernel_rfl) (fun _ _ _ h => h) (Or.inl ⟨by rfl, ?_⟩) hS ?_
  rotate_left
  · intro w' hw'
    obtain rfl : w' = V := hw'
    go_simp
    try (with_reducible rfl)
  simp only [Act.put, List.setIfInBounds_toArray, List.set_cons_zero, List.set_cons_succ]
  refine wpAnyS_takeL 23 (v := ?_) rfl (by kernel_rfl) (by kernel_rfl) (by kernel_rfl) (fun _ _ _ h => h) (Or.inl ⟨by rfl, ?_⟩) hS ?_
  rotate_left
  · intro w' hw'
    obtain rfl : w' = V := hw'
    go_simp
    try (with_reducible rfl)
  simp only [Act.put, List.setIfInBounds_toArray, List.set_cons_zero, List.set_cons_succ]
  refine wpAnyS_done (by kernel_rfl) ?_ _
  clear c0 c1 c2 c3 c4 c5 c6 c7 hS
  go_wp2
  go_loopw [6, 7, 8, 9, 10, 11, 12, 13, 14, 15, 16, 35] (fun a1 a2 a3 a4 a5 a6 a7 a8 _ _ _ i wr => ∃ (k A B C D E F G H : Nat), k ≤ 64 ∧ rnds cu hh b k = ⟨A, B, C, D, E, F, G, H⟩ ∧ a1 = .int .u32 A ∧ a2 = .int .u32 B ∧ a3 = .int .u32 C ∧ a4 = .int .u32 D ∧ a5 = .int .u32 E ∧ a6 = .int .u32 F ∧ a7 = .int .u32 G ∧ a8 = .int .u32 H ∧ i = .int .i64 k ∧ RdW cu hh b GW w wr) (fun _ _ _ _ _ _ _ _ _ _ _ i _ => 64 - (intOf i).toNat)
  case atStart => exact ⟨0, hh 0, hh 1, hh 2, hh 3, hh 4, hh 5, hh 6, hh 7, by omega, rfl, rfl, rfl, rfl, rfl, rfl, rfl, rfl, rfl, rfl, F0⟩
  case round =>
    obtain ⟨k, A, B, C, D, E, F, G, H, hk, hs, rfl, rfl, rfl, rfl, rfl, rfl, rfl, rfl, rfl, M⟩ := hrel
    clear F0
    have ok := rnds_ok cu hh b hl k
    rw [hs] at ok
    have lA : A < 4294967296 := ok.a
    have lB : B < 4294967296 := ok.b
    have lC : C < 4294967296 := ok.c
    have lD : D < 4294967296 := ok.d
    have lE : E < 4294967296 := ok.e
    have lF : F < 4294967296 := ok.f
    have lG : G < 4294967296 := ok.g
    have lH : H < 4294967296 := ok.h
    clear ok
    by_cases hlt : k < 64
    · have hnext : rnds cu hh b (k + 1) = rnd ⟨A, B, C, D, E, F, G, H⟩ (cu k / 4294967296) (wd b k) := by rw [← hs]; rfl
      go_upto_region 6 with fail
      refine wp_region_S (S := fun w' => w' = World.drew wr) (by kernel_rfl) ?_
      replace M := M.drew
      generalize World.drew wr = V at M ⊢
      have cw : V.cell? ⟨GW, k, none⟩ = some (.int .u32 ((wd b k : Nat) : Int)) := by
        rw [M.ws.cell, Iv_get _ _ _ (by rw [WL_length]; exact hlt)]
        simp [WL, hlt]
      have ck := M.tab.cell k (by omega)
      have lcu := M.tab.lt k
      have lW := wd_lt b hb0 k
      obtain ⟨W, hWd⟩ : ∃ W, W = wd b k := ⟨_, rfl⟩
      obtain ⟨CU, hCU⟩ : ∃ W, W = cu k := ⟨_, rfl⟩
      rw [← hWd] at cw lW hnext
      rw [← hCU] at ck lcu hnext
      obtain ⟨K, hK⟩ : ∃ K, K = CU / 4294967296 := ⟨_, rfl⟩
      rw [← hK] at hnext
      have kw : IntKind.u32.wrap ((CU : Int) / 4294967296) = (K : Int) := by rw [IntKind.wrap_u32]; omega
      have lK : K < 4294967296 := by omega
      have HN := Lib.hid hnext
      clear hWd hCU hK hnext hs
      have R1 : Hid (∀ W, Calls Tryd.prog 47 #[.int .u32 E, .int .i64 6] W fun e w' => e = .returned (.int .u32 ((rr E 6 : Nat) : Int)) ∧ W = w') := Lib.hid fun W => right32_any E 6 W lE (by decide) (by decide)
      have R2 : Hid (∀ W, Calls Tryd.prog 47 #[.int .u32 E, .int .i64 11] W fun e w' => e = .returned (.int .u32 ((rr E 11 : Nat) : Int)) ∧ W = w') := Lib.hid fun W => right32_any E 11 W lE (by decide) (by decide)
      have R3 : Hid (∀ W, Calls Tryd.prog 47 #[.int .u32 E, .int .i64 25] W fun e w' => e = .returned (.int .u32 ((rr E 25 : Nat) : Int)) ∧ W = w') := Lib.hid fun W => right32_any E 25 W lE (by decide) (by decide)
      have R4 : Hid (∀ W, Calls Tryd.prog 48 #[.int .u32 E, .int .u32 F, .int .u32 G] W fun e w' => e = .returned (.int .u32 ((ei E F G : Nat) : Int)) ∧ W = w') := Lib.hid fun W => either_any E F G W lE lF lG
      have R5 : Hid (∀ W, Calls Tryd.prog 47 #[.int .u32 A, .int .i64 2] W fun e w' => e = .returned (.int .u32 ((rr A 2 : Nat) : Int)) ∧ W = w') := Lib.hid fun W => right32_any A 2 W lA (by decide) (by decide)
      have R6 : Hid (∀ W, Calls Tryd.prog 47 #[.int .u32 A, .int .i64 13] W fun e w' => e = .returned (.int .u32 ((rr A 13 : Nat) : Int)) ∧ W = w') := Lib.hid fun W => right32_any A 13 W lA (by decide) (by decide)
      have R7 : Hid (∀ W, Calls Tryd.prog 47 #[.int .u32 A, .int .i64 22] W fun e w' => e = .returned (.int .u32 ((rr A 22 : Nat) : Int)) ∧ W = w') := Lib.hid fun W => right32_any A 22 W lA (by decide) (by decide)
      have R8 : Hid (∀ W, Calls Tryd.prog 49 #[.int .u32 A, .int .u32 B, .int .u32 C] W fun e w' => e = .returned (.int .u32 ((ma A B C : Nat) : Int)) ∧ W = w') := Lib.hid fun W => majority_any A B C W lA lB lC
      have i1 : (0 : Int) ≤ (k : Int) := by omega
      have i2 : (k : Int) < 64 := by omega
      have i3 : (k : Int) < 80 := by omega
      have hS : (fun w' => w' = V) V := rfl
      refine wpAnyS_takeL 0 (v := ?_) rfl (by kernel_rfl) (by kernel_rfl) (by kernel_rfl) (fun _ _ _ h => h) (Or.inl ⟨by rfl, ?_⟩) hS ?_
      rotate_left
      · intro w' hw'
        obtain rfl : w' = V := hw'
        go_simp
        try (with_reducible rfl)
      simp only [Act.put, List.setIfInBounds_toArray, List.set_cons_zero, List.set_cons_succ]
      refine wpAnyS_takeL 1 (v := ?_) rfl (by kernel_rfl) (by kernel_rfl) (by kernel_rfl) (fun _ _ _ h => h) (Or.inl ⟨by rfl, ?_⟩) hS ?_
      rotate_left
      · intro w' hw'
        obtain rfl : w' = V := hw'
        go_simp
        try (with_reducible rfl)
      simp only [Act.put, List.setIfInBounds_toArray, List.set_cons_zero, List.set_cons_succ]
      refine wpAnyS_takeL 3 (v := ?_) rfl (by kernel_rfl) (by kernel_rfl) (by kernel_rfl) (fun _ _ _ h => h) (Or.inl ⟨by rfl, ?_⟩) hS ?_
      rotate_left
      · intro w' hw'
        obtain rfl : w' = V := hw'
        go_simp
        try (with_reducible rfl)
      simp only [Act.put, List.setIfInBounds_toArray, List.set_cons_zero, List.set_cons_succ]
      refine wpAnyS_takeL 6 (v := ?_) rfl (by kernel_rfl) (by kernel_rfl) (by kernel_rfl) (fun _ _ _ h => h) (Or.inl ⟨by rfl, ?_⟩) hS ?_
      rotate_left
      · intro w' hw'
        obtain rfl : w' = V := hw'
        go_simp
        try (with_reducible rfl)
      simp only [Act.put, List.setIfInBounds_toArray, List.set_cons_zero, List.set_cons_succ]
      refine wpAnyS_takeL 10 (v := ?_) rfl (by kernel_rfl) (by kernel_rfl) (by kernel_rfl) (fun _ _ _ h => h) (Or.inl ⟨by rfl, ?_⟩) hS ?_
      rotate_left
      · intro w' hw'
        obtain rfl : w' = V := hw'
        go_simp
        try (with_reducible rfl)
      simp only [Act.put, List.setIfInBounds_toArray, List.set_cons_zero, List.set_cons_succ]
      refine wpAnyS_takeL 11 (v := ?_) rfl (by kernel_rfl) (by kernel_rfl) (by kernel_rfl) (fun _ _ _ h => h) (Or.inl ⟨by rfl, ?_⟩) hS ?_
      rotate_left
      · intro w' hw'
        obtain rfl : w' = V := hw'
        go_simp
        try (with_reducible rfl)
      simp only [Act.put, List.setIfInBounds_toArray, List.set_cons_zero, List.set_cons_succ]
      refine wpAnyS_takeL 12 (v := ?_) rfl (by kernel_rfl) (by kernel_rfl) (by kernel_rfl) (fun _ _ _ h => h) (Or.inl ⟨by rfl, ?_⟩) hS ?_
      rotate_left
      · intro w' hw'
        obtain rfl : w' = V := hw'
        go_simp
        try (with_reducible rfl)
      simp only [Act.put, List.setIfInBounds_toArray, List.set_cons_zero, List.set_cons_succ]
      refine wpAnyS_takeL 15 (v := ?_) rfl (by kernel_rfl) (by kernel_rfl) (by kernel_rfl) (fun _ _ _ h => h) (Or.inl ⟨by rfl, ?_⟩) hS ?_
      rotate_left
      · intro w' hw'
        obtain rfl : w' = V := hw'
        go_simp
        try (with_reducible rfl)
      simp only [Act.put, List.setIfInBounds_toArray, List.set_cons_zero, List.set_cons_succ]
      refine wpAnyS_takeL 16 (v := ?_) rfl (by kernel_rfl) (by kernel_rfl) (by kernel_rfl) (fun _ _ _ h => h) (Or.inl ⟨by rfl, ?_⟩) hS ?_
      rotate_left
      · intro w' hw'
        obtain rfl : w' = V := hw'
        go_simp
        try (with_reducible rfl)
      simp only [Act.put, List.setIfInBounds_toArray, List.set_cons_zero, List.set_cons_succ]
      refine wpAnyS_takeL 17 (v := ?_) rfl (by kernel_rfl) (by kernel_rfl) (by kernel_rfl) (fun _ _ _ h => h) (Or.inl ⟨by rfl, ?_⟩) hS ?_
      rotate_left
      · intro w' hw'
        obtain rfl : w' = V := hw'
        go_simp
        try (with_reducible rfl)
      simp only [Act.put, List.setIfInBounds_toArray, List.set_cons_zero, List.set_cons_succ]
      refine wpAnyS_takeL 18 (v := ?_) rfl (by kernel_rfl) (by kernel_rfl) (by kernel_rfl) (fun _ _ _ h => h) (Or.inl ⟨by rfl, ?_⟩) hS ?_
      rotate_left
      · intro w' hw'
        obtain rfl : w' = V := hw'
        go_simp
        try (with_reducible rfl)
      simp only [Act.put, List.setIfInBounds_toArray, List.set_cons_zero, List.set_cons_succ]
      refine wpAnyS_takeL 19 (v := ?_) rfl (by kernel_rfl) (by kernel_rfl) (by kernel_rfl) (fun _ _ _ h => h) (Or.inl ⟨by rfl, ?_⟩) hS ?_
      rotate_left
      · intro w' hw'
        obtain rfl : w' = V := hw'
        go_simp
        try (with_reducible rfl)
      simp only [Act.put, List.setIfInBounds_toArray, List.set_cons_zero, List.set_cons_succ]
      refine wpAnyS_takeL 21 (v := ?_) rfl (by kernel_rfl) (by kernel_rfl) (by kernel_rfl) (fun _ _ _ h => h) (Or.inl ⟨by rfl, ?_⟩) hS ?_
      rotate_left
      · intro w' hw'
        obtain rfl : w' = V := hw'
        go_simp
        try (with_reducible rfl)
      simp only [Act.put, List.setIfInBounds_toArray, List.set_cons_zero, List.set_cons_succ]
      refine wpAnyS_takeL 22 (v := ?_) rfl (by kernel_rfl) (by kernel_rfl) (by kernel_rfl) (fun _ _ _ h => h) (Or.inl ⟨by rfl, ?_⟩) hS ?_
      rotate_left
      · intro w' hw'
        obtain rfl : w' = V := hw'
        go_simp
        try (with_reducible rfl)
      simp only [Act.put, List.setIfInBounds_toArray, List.set_cons_zero, List.set_cons_succ]
      refine wpAnyS_takeL 23 (v := ?_) rfl (by kernel_rfl) (by kernel_rfl) (by kernel_rfl) (fun _ _ _ h => h) (Or.inl ⟨by rfl, ?_⟩) hS ?_
      rotate_left
      · intro w' hw'
        obtain rfl : w' = V := hw'
        go_simp
        try (with_reducible rfl)
      simp only [Act.put, List.setIfInBounds_toArray, List.set_cons_zero, List.set_cons_succ]
      refine wpAnyS_one (i := 2) (by kernel_rfl) ?_
      unfold wpOp
      go_simp
      left
      refine (R1.out _).mono ?_
      rintro e w1 ⟨rfl, rfl⟩
      refine ⟨hS, ?_⟩
      refine wpAnyS_one (i := 4) (by kernel_rfl) ?_
      unfold wpOp
      go_simp
      left
      refine (R2.out _).mono ?_
      rintro e w1 ⟨rfl, rfl⟩
      refine ⟨hS, ?_⟩
      refine wpAnyS_takeL 5 (v := ?_) rfl (by kernel_rfl) (by kernel_rfl) (by kernel_rfl) (fun _ _ _ h => h) (Or.inl ⟨by rfl, ?_⟩) hS ?_
      rotate_left
      · intro w' hw'
        obtain rfl : w' = V := hw'
        go_simp
        try (with_reducible rfl)
      simp only [Act.put, List.setIfInBounds_toArray, List.set_cons_zero, List.set_cons_succ]
      refine wpAnyS_one (i := 7) (by kernel_rfl) ?_
      unfold wpOp
      go_simp
      left
      refine (R3.out _).mono ?_
      rintro e w1 ⟨rfl, rfl⟩
      refine ⟨hS, ?_⟩
      refine wpAnyS_takeL 8 (v := ?_) rfl (by kernel_rfl) (by kernel_rfl) (by kernel_rfl) (fun _ _ _ h => h) (Or.inl ⟨by rfl, ?_⟩) hS ?_
      rotate_left
      · intro w' hw'
        obtain rfl : w' = V := hw'
        go_simp
        try (with_reducible rfl)
      simp only [Act.put, List.setIfInBounds_toArray, List.set_cons_zero, List.set_cons_succ]
      refine wpAnyS_takeL 9 (v := ?_) rfl (by kernel_rfl) (by kernel_rfl) (by kernel_rfl) (fun _ _ _ h => h) (Or.inl ⟨by rfl, ?_⟩) hS ?_
      rotate_left
      · intro w' hw'
        obtain rfl : w' = V := hw'
        go_simp
        try (with_reducible rfl)
      simp only [Act.put, List.setIfInBounds_toArray, List.set_cons_zero, List.set_cons_succ]
      refine wpAnyS_one (i := 13) (by kernel_rfl) ?_
      unfold wpOp
      go_simp
      left
      refine (R4.out _).mono ?_
      rintro e w1 ⟨rfl, rfl⟩
      refine ⟨hS, ?_⟩
      refine wpAnyS_takeL 14 (v := ?_) rfl (by kernel_rfl) (by kernel_rfl) (by kernel_rfl) (fun _ _ _ h => h) (Or.inl ⟨by rfl, ?_⟩) hS ?_
      rotate_left
      · intro w' hw'
        obtain rfl : w' = V := hw'
        go_simp
        try (with_reducible rfl)
      simp only [Act.put, List.setIfInBounds_toArray, List.set_cons_zero, List.set_cons_succ]
      refine wpAnyS_takeL 20 (v := ?_) rfl (by kernel_rfl) (by kernel_rfl) (by kernel_rfl) (fun _ _ _ h => h) (Or.inl ⟨by rfl, ?_⟩) hS ?_
      rotate_left
      · intro w' hw'
        obtain rfl : w' = V := hw'
        go_simp
        try (with_reducible rfl)
      simp only [Act.put, List.setIfInBounds_toArray, List.set_cons_zero, List.set_cons_succ]
      refine wpAnyS_takeL 24 (v := ?_) rfl (by kernel_rfl) (by kernel_rfl) (by kernel_rfl) (fun _ _ _ h => h) (Or.inl ⟨by rfl, ?_⟩) hS ?_
      rotate_left
      · intro w' hw'
        obtain rfl : w' = V := hw'
        go_simp
        try (with_reducible rfl)
      simp only [Act.put, List.setIfInBounds_toArray, List.set_cons_zero, List.set_cons_succ]
      refine wpAnyS_takeL 25 (v := ?_) rfl (by kernel_rfl) (by kernel_rfl) (by kernel_rfl) (fun _ _ _ h => h) (Or.inl ⟨by rfl, ?_⟩) hS ?_
      rotate_left
      · intro w' hw'
        obtain rfl : w' = V := hw'
        go_simp
        try (with_reducible rfl)
      simp only [Act.put, List.setIfInBounds_toArray, List.set_cons_zero, List.set_cons_succ]
      refine wpAnyS_done (by kernel_rfl) ?_ _
      clear cw ck i3 kw hS
      go_wp2_with fail
      refine (R5.out _).mono ?_
      rintro e w1 ⟨rfl, rfl⟩
      go_wp2_with fail
      refine (R6.out _).mono ?_
      rintro e w1 ⟨rfl, rfl⟩
      go_wp2_with fail
      refine (R7.out _).mono ?_
      rintro e w1 ⟨rfl, rfl⟩
      go_wp2_with fail
      refine (R8.out _).mono ?_
      rintro e w1 ⟨rfl, rfl⟩
      go_wp2
      have b1 := rr_lt E 6 lE (by decide) (by decide)
      have b2 := rr_lt E 11 lE (by decide) (by decide)
      have b3 := rr_lt E 25 lE (by decide) (by decide)
      have b4 := rr_lt A 2 lA (by decide) (by decide)
      have b5 := rr_lt A 13 lA (by decide) (by decide)
      have b6 := rr_lt A 22 lA (by decide) (by decide)
      have e1 : bits .xor .u32 (bits .xor .u32 ((rr E 6 : Nat) : Int) ((rr E 11 : Nat) : Int)) ((rr E 25 : Nat) : Int) = ((g1 E : Nat) : Int) := by
        rw [u32_xor_nat _ _ b1 b2, u32_xor_nat _ _ (xor_lt _ _ b1 b2) b3]
        rfl
      have e2 : bits .xor .u32 (bits .xor .u32 ((rr A 2 : Nat) : Int) ((rr A 13 : Nat) : Int)) ((rr A 22 : Nat) : Int) = ((g0 A : Nat) : Int) := by
        rw [u32_xor_nat _ _ b4 b5, u32_xor_nat _ _ (xor_lt _ _ b4 b5) b6]
        rfl
      rw [e1, e2]
      clear e1 e2 b1 b2 b3 b4 b5 b6 R1 R2 R3 R4 R5 R6 R7 R8
      refine ⟨⟨k + 1, _, _, _, _, _, _, _, _, by omega, HN.out, val_int ?_, rfl, rfl, rfl, val_int ?_, rfl, rfl, rfl, by go_num, M⟩, by simp [intOf]; omega⟩
      · simp only [tt, uu]
        omega
      · simp only [tt]
        omega
    · obtain rfl : k = 64 := by omega
      have HA := M.a
      have HR := M.r
      have HB := M.k
      have e8 : Iv .u32 (W8 (S8.at ⟨A, B, C, D, E, F, G, H⟩)) = #[.int .u32 A, .int .u32 B, .int .u32 C, .int .u32 D, .int .u32 E, .int .u32 F, .int .u32 G, .int .u32 H] := by
        simp [Iv, W8, S8.at, List.range, List.range.loop]
      have cA : Hid (∀ W, Calls Tryd.prog 50 #[.agg (Iv .u32 (W8 hh)), .agg #[.int .u32 A, .int .u32 B, .int .u32 C, .int .u32 D, .int .u32 E, .int .u32 F, .int .u32 G, .int .u32 H]] W fun e w' => e = .returned (V8 (comp cu hh b)) ∧ Below W.heap.size W w') := Lib.hid fun W => by
        have h := added_any hh (S8.at ⟨A, B, C, D, E, F, G, H⟩) W hl (fun i hi => by
          match i, hi with
          | 0, _ => exact lA
          | 1, _ => exact lB
          | 2, _ => exact lC
          | 3, _ => exact lD
          | 4, _ => exact lE
          | 5, _ => exact lF
          | 6, _ => exact lG
          | 7, _ => exact lH)
        unfold V8 at h
        rw [e8] at h
        refine h.mono fun e w' ⟨he, hb⟩ => ⟨?_, hb⟩
        rw [he]
        unfold V8 comp
        rw [hs]
      clear M e8 hs lA lB lC lD lE lF lG lH
      go_wp2_with (first | (refine wpList_load_row rfl 71 _ rfl (w.heap.size) rfl 71 _ (0, 0) _ HA Tryd.underlying71 rfl (info_W8 _) ?_))
      refine (cA.out _).mono ?_
      rintro e w2 ⟨rfl, b2⟩
      replace HR := HR.below' b2
      replace HB := HB.trans (b2.mono HB.size)
      clear b2 HA cA
      unfold V8
      go_wp2_with (first | (refine wpList_store_row rfl 71 _ _ rfl (w.heap.size + 1) (Iv .u32 (W8 (comp cu hh b))) rfl rfl 71 _ HR (info_W8 _) (by rw [Iv_size, Iv_size, W8_length]; rfl) (Iv_one _ _) ?_))
      exact bodyPost_ret (results_cell_row rfl _ _ _ 71 _ (0, 0) _ rfl (HR.row _) Tryd.underlying71 rfl (info_W8 _)) rfl ⟨rfl, below_setRow HB (by omega) _⟩
end Go.Proofs.YtdmhngkedgkndaaDoor
