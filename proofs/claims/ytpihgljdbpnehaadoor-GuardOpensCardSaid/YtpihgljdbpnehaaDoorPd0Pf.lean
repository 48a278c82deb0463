/- The program's joined: its contract. A Cipher in memory; the program's moved: its contract. The program's mixed: its contract (printed by genPf.py). -/
import Derived.Test.YtpihgljdbpnehaaDoorPa0Pc
import Derived.StillTailTactics
namespace Go.Proofs.YtpihgljdbpnehaaDoor
open Go.RowKit
theorem NI_of (l : List Nat) (h : l.length = 16) : NI l = NI (LB fun i => l.getD i 0) := (NI_LB l h).symm
theorem MX_step (f g : Nat → Nat) (k : Nat) : ∀ i, i ≠ k → MX f g (k + 1) i = MX f g k i := fun i hi => by
 unfold MX
 by_cases hik : i < k <;> simp [hik] <;> omega
theorem MX_new (f g : Nat → Nat) (k : Nat) : MX f g (k + 1) k = f k := if_pos (by omega)
theorem MX_old (f g : Nat → Nat) (k : Nat) : MX f g k k = g k := if_neg (by omega)
theorem BB.of_block {w w1 : World} {g : Nat} {f : Nat → Nat} (h : BB w g f) (hb : w1.heap[g]? = w.heap[g]?) : BB w1 g f := Eq.trans hb h
theorem BB.far {w : World} {g k i : Nat} {f : Nat → Nat} (h : BB w g f) (hk : g ≠ k) (v : Value) : BB (w.setCell ⟨k, i, none⟩ v) g f := Blk.far (p := ⟨k, i, none⟩) h hk v
theorem BB.below {w w1 : World} {g : Nat} {f : Nat → Nat} (h : BB w g f) (b : Below w.heap.size w w1) : BB w1 g f := Blk.below' h b
set_option maxHeartbeats 4000000 in
set_option maxRecDepth 100000 in
theorem joined_f (f g : Nat → Nat) (fa : ∀ i, f i < 256) (fb : ∀ i, g i < 256) (w : World) :
  Calls Tryd.prog 81 #[.agg (Iv .u8 (NI (LB f))), .agg (Iv .u8 (NI (LB g)))] w fun e w' => e = .returned (.agg (Iv .u8 (NI (LB fun i => f i ^^^ g i)))) ∧ Below w.heap.size w w' := by
 go_enter Tryd.func81, Tryd.ntmps81
 go_upto_region 2 with fail
 generalize hW : World.alloc (World.alloc (World.alloc w _) _) _ = W
 have B0 : Below w.heap.size w W := hW ▸ (((Below.refl w.heap.size w).alloc (Nat.le_refl _) _).alloc (by simp) _).alloc (by simp; omega) _
 have K0 : BB W w.heap.size (MX (fun i => f i ^^^ g i) f 0) := hW ▸ ((Blk.new w 27 (Iv .u8 (NI (LB f)))).alloc _).alloc _
 have K1 : BB W (w.heap.size + 1) g := hW ▸ (Blk.new' (by simp) _ _).alloc _
 have K2 : BB W (w.heap.size + 1 + 1) (fun _ => 0) := hW ▸ Blk.new' (by simp) _ (Iv .u8 (NI (LB fun _ => 0)))
 clear hW
 go_loopw [6] (fun i wr => ∃ k : Nat, k ≤ 16 ∧ i = .int .i64 (k : Int) ∧ BB wr w.heap.size (MX (fun i => f i ^^^ g i) f k) ∧ BB wr (w.heap.size + 1) g ∧ BB wr (w.heap.size + 1 + 1) (fun _ => 0) ∧ Below w.heap.size w wr) (fun i _ => (16 - intOf i).toNat)
 case atStart => exact ⟨0, by omega, rfl, K0, K1, K2, B0⟩
 case round =>
  clear K0 K1 K2 B0
  obtain ⟨k, hk, rfl, K0, K1, K2, hB⟩ := hrel
  by_cases h16 : k = 16
  ·
   subst h16
   replace K0 := K0.congr (f' := fun i => f i ^^^ g i) fun i hi => if_pos hi
   obtain ⟨x, hx⟩ : ∃ x, x = fun i => f i ^^^ g i := ⟨_, rfl⟩
   rw [← hx] at K0
   have HX := Lib.hid hx
   clear hx
   go_wp2_with (first | (refine wpList_load_row rfl 27 _ rfl w.heap.size rfl 27 _ (0, 0) _ K0 Tryd.underlying27 rfl (info_bl _) ?_) | (refine wpList_store_row rfl 27 _ _ rfl (w.heap.size + 1 + 1) (Iv .u8 (NI (LB x))) rfl rfl 27 _ K2 (info_bl _) (by rw [Iv_size, Iv_size, NI_length, NI_length, LB_length, LB_length]) (Iv_one _ _) ?_))
   exact bodyPost_ret (results_cell_row rfl _ _ _ 27 _ (0, 0) _ rfl (Blk.row K2 (Iv .u8 (NI (LB x)))) Tryd.underlying27 rfl (info_bl _)) rfl ⟨by rw [HX.out], below_setRow hB (by omega) _⟩
  ·
   have i1 : (k : Int) < 16 := by omega
   have i0 : (0 : Int) ≤ (k : Int) := by omega
   go_upto_region 4 with fail
   rename_i aK
   refine wp_region_still_tail 8 (by kernel_rfl) (by kernel_rfl) ?_
   simp only [List.take_succ_cons, List.take_zero, List.drop_succ_cons, List.drop_zero]
   change wpStill _ _ (World.drew wr) (fun a' => wpList _ _ _ _ a' (World.drew wr)) _ _
   replace K0 : BB wr.drew _ _ := K0.of_block rfl
   replace K1 : BB wr.drew _ _ := K1.of_block rfl
   replace K2 : BB wr.drew _ _ := K2.of_block rfl
   replace hB := below_drew hB
   generalize World.drew wr = V at *
   have c0 := K0.cell k (by omega)
   have c1 := K1.cell k (by omega)
   have f0 := Blk.frozen K0 k
   rw [MX_old] at c0
   have ex := u8_xor _ _ (fa k) (fb k)
   have K0' := K0.set k (MX (fun i => f i ^^^ g i) f (k + 1)) (MX_step _ _ k)
   rw [MX_new] at K0'
   generalize f k ^^^ g k = X at *
   have K1' := K1.far (i := k) (show w.heap.size + 1 ≠ w.heap.size by omega) (.int .u8 (X : Int))
   have K2' := K2.far (i := k) (show w.heap.size + 1 + 1 ≠ w.heap.size by omega) (.int .u8 (X : Int))
   have hB' := hB.setCell (p := ⟨w.heap.size, k, none⟩) (Nat.le_refl _) (.int .u8 (X : Int))
   clear K0 K1 K2 hB
   generalize f k = F at *
   generalize g k = G at *
   repeat still_step
   refine wpStill_nil ?_
   go_wp2
   exact ⟨⟨k + 1, by omega, rfl, K0', K1', K2', hB'⟩, by simp only [intOf]; omega⟩
theorem joined_any (a b : List Nat) (la : a.length = 16) (lb : b.length = 16) (ba : ∀ x ∈ a, x < 256) (bb : ∀ x ∈ b, x < 256) (w : World) :
  Calls Tryd.prog 81 #[.agg (Iv .u8 (NI a)), .agg (Iv .u8 (NI b))] w fun e w' => e = .returned (.agg (Iv .u8 (NI (xorB a b)))) ∧ Below w.heap.size w w' := by
 rw [NI_of a la, NI_of b lb]
 exact joined_f _ _ (fun i => getD_lt ba i) (fun i => getD_lt bb i) w
end Go.Proofs.YtpihgljdbpnehaaDoor
namespace Go.Proofs.YtpihgljdbpnehaaDoor
open Go.RowKit
/-- A Cipher in block g: the rounds' keys, then the Subs. -/
def CI (w : World) (g : Nat) (ks S : List Nat) : Prop := Blk w g 114 (Iv .u8 (NI (ks ++ S)))
theorem CI.of_block {w w1 : World} {g : Nat} {ks S : List Nat} (h : CI w g ks S) (hb : w1.heap[g]? = w.heap[g]?) : CI w1 g ks S := Eq.trans hb h
theorem CI.lt {w : World} {g : Nat} {ks S : List Nat} (h : CI w g ks S) : g < w.heap.size := Blk.lt h
theorem CI.far {w : World} {g k i : Nat} {ks S : List Nat} (h : CI w g ks S) (hk : g ≠ k) (v : Value) : CI (w.setCell ⟨k, i, none⟩ v) g ks S := Blk.far (p := ⟨k, i, none⟩) h hk v
theorem CI.below {w w1 : World} {g : Nat} {ks S : List Nat} (h : CI w g ks S) (b : Below w.heap.size w w1) : CI w1 g ks S := Blk.below' h b
theorem CI.sub {w : World} {g : Nat} {ks S : List Nat} (h : CI w g ks S) (lk : ks.length = 176) (x : Nat) (hx : x < S.length) : w.cell? ⟨g, 176 + x, none⟩ = some (.int .u8 ((S.getD x 0 : Nat) : Int)) := by
 rw [Blk.cell h, NI_get _ _ (by rw [List.length_append]; omega)]
 congr 3
 rw [List.getElem_append_right (by omega)]
 simp [lk, hx]
set_option maxHeartbeats 4000000 in
set_option maxRecDepth 100000 in
theorem moved_f (gc : Nat) (ks S : List Nat) (lk : ks.length = 176) (lS : S.length = 256) (f : Nat → Nat) (fa : ∀ i, f i < 256) (w : World) (hC : CI w gc ks S) :
  Calls Tryd.prog 83 #[.pointer (some ⟨gc, 0, none⟩), .agg (Iv .u8 (NI (LB f)))] w fun e w' => e = .returned (.agg (Iv .u8 (NI (LB (shiftB S (LB f)))))) ∧ Below w.heap.size w w' := by
 go_enter Tryd.func83, Tryd.ntmps83
 go_upto_region 3 with fail
 generalize hW : World.alloc (World.alloc (World.alloc w _) _) _ = W
 have B0 : Below w.heap.size w W := hW ▸ (((Below.refl w.heap.size w).alloc (Nat.le_refl _) _).alloc (by simp) _).alloc (by simp; omega) _
 have K0 : BB W w.heap.size f := hW ▸ ((Blk.new w 27 (Iv .u8 (NI (LB f)))).alloc _).alloc _
 have K1 : BB W (w.heap.size + 1) (fun _ => 0) := hW ▸ (Blk.new' (by simp) _ (Iv .u8 (NI (LB fun _ => 0)))).alloc _
 have K2 : BB W (w.heap.size + 1 + 1) (MX (shiftB S (LB f)) (fun _ => 0) 0) := hW ▸ Blk.new' (by simp) _ (Iv .u8 (NI (LB fun _ => 0)))
 have gcl := hC.lt
 replace hC := hC.below B0
 clear hW
 go_loopw [7] (fun i wr => ∃ k : Nat, k ≤ 16 ∧ i = .int .i64 (k : Int) ∧ CI wr gc ks S ∧ BB wr w.heap.size f ∧ BB wr (w.heap.size + 1) (fun _ => 0) ∧ BB wr (w.heap.size + 1 + 1) (MX (shiftB S (LB f)) (fun _ => 0) k) ∧ Below w.heap.size w wr) (fun i _ => (16 - intOf i).toNat)
 case atStart => exact ⟨0, by omega, rfl, hC, K0, K1, K2, B0⟩
 case round =>
  clear K0 K1 K2 B0 hC
  obtain ⟨k, hk, rfl, hC, K0, K1, K2, hB⟩ := hrel
  by_cases h16 : k = 16
  ·
   subst h16
   replace K2 := K2.congr (f' := shiftB S (LB f)) fun i hi => if_pos hi
   go_wp2_with (first | (refine wpList_load_row rfl 27 _ rfl (w.heap.size + 1 + 1) rfl 27 _ (0, 0) _ K2 Tryd.underlying27 rfl (info_bl _) ?_) | (refine wpList_store_row rfl 27 _ _ rfl (w.heap.size + 1) (Iv .u8 (NI (LB (shiftB S (LB f))))) rfl rfl 27 _ K1 (info_bl _) (by rw [Iv_size, Iv_size, NI_length, NI_length, LB_length, LB_length]) (Iv_one _ _) ?_))
   exact bodyPost_ret (results_cell_row rfl _ _ _ 27 _ (0, 0) _ rfl (Blk.row K1 (Iv .u8 (NI (LB (shiftB S (LB f)))))) Tryd.underlying27 rfl (info_bl _)) rfl ⟨rfl, below_setRow hB (by omega) _⟩
  ·
   have i1 : (k : Int) < 16 := by omega
   have i0 : (0 : Int) ≤ (k : Int) := by omega
   obtain ⟨j, hj⟩ : ∃ j, j = (k + 4 * (k % 4)) % 16 := ⟨_, rfl⟩
   have j0 : j < 16 := by omega
   have t1 : (k : Int).tmod 4 = (k : Int) % 4 := rfl
   have w1' : IntKind.i64.wrap (4 * ((k : Int) % 4)) = 4 * ((k : Int) % 4) := by rw [IntKind.wrap_i64]; omega
   have w2' : IntKind.i64.wrap ((k : Int) + 4 * ((k : Int) % 4)) = (k : Int) + 4 * ((k : Int) % 4) := by rw [IntKind.wrap_i64]; omega
   have t2 : ((k : Int) + 4 * ((k : Int) % 4)).tmod 16 = (j : Int) := by rw [Int.tmod_eq_emod_of_nonneg (by omega)]; omega
   have j1 : (j : Int) < 16 := by omega
   have j2 : (0 : Int) ≤ (j : Int) := by omega
   go_upto_region 5 with fail
   rename_i aK
   refine wp_region_still_tail 15 (by kernel_rfl) (by kernel_rfl) ?_
   simp only [List.take_succ_cons, List.take_zero, List.drop_succ_cons, List.drop_zero]
   change wpStill _ _ (World.drew wr) (fun a' => wpList _ _ _ _ a' (World.drew wr)) _ _
   replace hC : CI wr.drew _ _ _ := hC.of_block rfl
   replace K0 : BB wr.drew _ _ := K0.of_block rfl
   replace K1 : BB wr.drew _ _ := K1.of_block rfl
   replace K2 : BB wr.drew _ _ := K2.of_block rfl
   replace hB := below_drew hB
   generalize World.drew wr = V at *
   have c0 := K0.cell j j0
   have lF := fa j
   have c1 := hC.sub lk (f j) (by omega)
   have c2 := K2.cell k (by omega)
   have f2 := Blk.frozen K2 k
   have hv : shiftB S (LB f) k = S.getD (f j) 0 := by
    unfold shiftB
    rw [← hj, LB_get f j j0]
   have K2' := K2.set k (MX (shiftB S (LB f)) (fun _ => 0) (k + 1)) (MX_step _ _ k)
   rw [MX_new, hv] at K2'
   generalize f j = F at *
   generalize S.getD F 0 = X at *
   have F0 : (0 : Int) ≤ (F : Int) := by omega
   have F1 : (F : Int) < 256 := by omega
   have K0' := K0.far (i := k) (show w.heap.size ≠ w.heap.size + 1 + 1 by omega) (.int .u8 (X : Int))
   have K1' := K1.far (i := k) (show w.heap.size + 1 ≠ w.heap.size + 1 + 1 by omega) (.int .u8 (X : Int))
   have hC' := hC.far (i := k) (show gc ≠ w.heap.size + 1 + 1 by omega) (.int .u8 (X : Int))
   have hB' := hB.setCell (p := ⟨w.heap.size + 1 + 1, k, none⟩) (show w.heap.size ≤ w.heap.size + 1 + 1 by omega) (.int .u8 (X : Int))
   clear K0 K1 K2 hB hC hv hj
   repeat still_step
   refine wpStill_nil ?_
   go_wp2
   exact ⟨⟨k + 1, by omega, rfl, hC', K0', K1', K2', hB'⟩, by simp only [intOf]; omega⟩
theorem moved_any (gc : Nat) (ks S b : List Nat) (lk : ks.length = 176) (lS : S.length = 256) (lb : b.length = 16) (bb : ∀ x ∈ b, x < 256) (w : World) (hC : CI w gc ks S) :
  Calls Tryd.prog 83 #[.pointer (some ⟨gc, 0, none⟩), .agg (Iv .u8 (NI b))] w fun e w' => e = .returned (.agg (Iv .u8 (NI (movedL S b)))) ∧ Below w.heap.size w w' := by
 have h := moved_f gc ks S lk lS (fun i => b.getD i 0) (fun i => getD_lt bb i) w hC
 rw [LB_of b lb] at h
 exact h
end Go.Proofs.YtpihgljdbpnehaaDoor
namespace Go.Proofs.YtpihgljdbpnehaaDoor
open Go.RowKit
set_option maxHeartbeats 8000000 in
set_option maxRecDepth 100000 in
theorem mixed_f (f : Nat → Nat) (fa : ∀ i, f i < 256) (w : World) :
  Calls Tryd.prog 82 #[.agg (Iv .u8 (NI (LB f)))] w fun e w' => e = .returned (.agg (Iv .u8 (NI (LB (mixP f))))) ∧ Below w.heap.size w w' := by
 go_enter Tryd.func82, Tryd.ntmps82
 go_upto_region 2 with fail
 generalize hW : World.alloc (World.alloc w _) _ = W
 have B0 : Below w.heap.size w W := hW ▸ ((Below.refl w.heap.size w).alloc (Nat.le_refl _) _).alloc (by simp) _
 have K0 : BB W w.heap.size (MX (mixP f) f 0) := hW ▸ (Blk.new w 27 (Iv .u8 (NI (LB f)))).alloc _
 have K1 : BB W (w.heap.size + 1) (fun _ => 0) := hW ▸ Blk.new' (by simp) _ (Iv .u8 (NI (LB fun _ => 0)))
 clear hW
 go_loopw [3] (fun i wr => ∃ m : Nat, m ≤ 16 ∧ m % 4 = 0 ∧ i = .int .i64 (m : Int) ∧ BB wr w.heap.size (MX (mixP f) f m) ∧ BB wr (w.heap.size + 1) (fun _ => 0) ∧ Below w.heap.size w wr) (fun i _ => (16 - intOf i).toNat)
 case atStart => exact ⟨0, by omega, rfl, rfl, K0, K1, B0⟩
 case round =>
  clear K0 K1 B0
  obtain ⟨m, hm, hm4, rfl, K0, K1, hB⟩ := hrel
  by_cases h16 : m = 16
  ·
   subst h16
   replace K0 := K0.congr (f' := mixP f) fun i hi => if_pos hi
   go_wp2_with (first | (refine wpList_load_row rfl 27 _ rfl w.heap.size rfl 27 _ (0, 0) _ K0 Tryd.underlying27 rfl (info_bl _) ?_) | (refine wpList_store_row rfl 27 _ _ rfl (w.heap.size + 1) (Iv .u8 (NI (LB (mixP f)))) rfl rfl 27 _ K1 (info_bl _) (by rw [Iv_size, Iv_size, NI_length, NI_length, LB_length, LB_length]) (Iv_one _ _) ?_))
   exact bodyPost_ret (results_cell_row rfl _ _ _ 27 _ (0, 0) _ rfl (Blk.row K1 (Iv .u8 (NI (LB (mixP f))))) Tryd.underlying27 rfl (info_bl _)) rfl ⟨rfl, below_setRow hB (by omega) _⟩
  ·
   have i1 : (m : Int) < 16 := by omega
   have i0 : (0 : Int) ≤ (m : Int) := by omega
   have cell : ∀ s, s < 4 → wr.drew.cell? ⟨w.heap.size, m + s, none⟩ = some (.int .u8 ((f (m + s) : Nat) : Int)) := fun s hs => by
    have h := K0.cell (m + s) (by omega)
    rw [show MX (mixP f) f m (m + s) = f (m + s) from if_neg (by omega)] at h
    exact h
   have c0 : wr.drew.cell? ⟨w.heap.size, m + 0, none⟩ = some (.int .u8 ((f (m + 0) : Nat) : Int)) := cell 0 (by omega)
   have c1 : wr.drew.cell? ⟨w.heap.size, m + 1, none⟩ = some (.int .u8 ((f (m + 1) : Nat) : Int)) := cell 1 (by omega)
   have c2 : wr.drew.cell? ⟨w.heap.size, m + 2, none⟩ = some (.int .u8 ((f (m + 2) : Nat) : Int)) := cell 2 (by omega)
   have c3 : wr.drew.cell? ⟨w.heap.size, m + 3, none⟩ = some (.int .u8 ((f (m + 3) : Nat) : Int)) := cell 3 (by omega)
   simp only [Nat.add_zero] at c0
   clear cell
   have v0 : mixP f m = dblN (f m) ^^^ tripN (f (m + 1)) ^^^ f (m + 2) ^^^ f (m + 3) := if_pos hm4
   have v1 : mixP f (m + 1) = f m ^^^ dblN (f (m + 1)) ^^^ tripN (f (m + 2)) ^^^ f (m + 3) := by
    unfold mixP
    rw [if_neg (by omega), if_pos (by omega)]
    rfl
   have v2 : mixP f (m + 2) = f m ^^^ f (m + 1) ^^^ dblN (f (m + 2)) ^^^ tripN (f (m + 3)) := by
    unfold mixP
    rw [if_neg (by omega), if_neg (by omega), if_pos (by omega)]
    rfl
   have v3 : mixP f (m + 3) = tripN (f m) ^^^ f (m + 1) ^^^ f (m + 2) ^^^ dblN (f (m + 3)) := by
    unfold mixP
    rw [if_neg (by omega), if_neg (by omega), if_neg (by omega)]
    rfl
   have e1 : wrap64 ((m : Int) + 1) = ((m + 1 : Nat) : Int) := by unfold wrap64; omega
   have e2 : wrap64 ((m : Int) + 2) = ((m + 2 : Nat) : Int) := by unfold wrap64; omega
   have e3 : wrap64 ((m : Int) + 3) = ((m + 3 : Nat) : Int) := by unfold wrap64; omega
   have e4 : wrap64 ((m : Int) + 4) = ((m + 4 : Nat) : Int) := by unfold wrap64; omega
   have w1 : IntKind.i64.wrap ((m : Int) + 1) = (m : Int) + 1 := by rw [IntKind.wrap_i64]; omega
   have w2 : IntKind.i64.wrap ((m : Int) + 2) = (m : Int) + 2 := by rw [IntKind.wrap_i64]; omega
   have w3 : IntKind.i64.wrap ((m : Int) + 3) = (m : Int) + 3 := by rw [IntKind.wrap_i64]; omega
   have l1 : (m : Int) + 1 < 16 := by omega
   have l2 : (m : Int) + 2 < 16 := by omega
   have l3 : (m : Int) + 3 < 16 := by omega
   have n1 : (0 : Int) ≤ (m : Int) + 1 := by omega
   have t1 : ((m : Int) + 1).toNat = m + 1 := by omega
   have n2 : (0 : Int) ≤ (m : Int) + 2 := by omega
   have t2 : ((m : Int) + 2).toNat = m + 2 := by omega
   have n3 : (0 : Int) ≤ (m : Int) + 3 := by omega
   have t3 : ((m : Int) + 3).toNat = m + 3 := by omega
   have lA := fa m
   have lB := fa (m + 1)
   have lC := fa (m + 2)
   have lD := fa (m + 3)
   generalize f m = A at *
   generalize f (m + 1) = B at *
   generalize f (m + 2) = C at *
   generalize f (m + 3) = D at *
   go_upto_region 4 with fail
   rename_i aK
   refine wp_region_still_lit (by kernel_rfl) (by kernel_rfl) ?_
   change wpStill _ _ (World.drew wr) (fun a' => Exit.then _ _ Exit.normal a' (World.drew wr)) _ _
   replace K0 : BB wr.drew _ _ := K0.of_block rfl
   replace K1 : BB wr.drew _ _ := K1.of_block rfl
   replace hB := below_drew hB
   generalize World.drew wr = V at *
   repeat still_step
   refine wpStill_nil ?_
   refine aK _ _ ?_
   clear aK
   have e0 : m % 4 = 0 := hm4
   clear c0 c1 c2 c3
   have CdA := Lib.hid (double_any A lA)
   have CtA := Lib.hid (triple_any A lA)
   have ldA := dblN_lt lA
   have ltA := tripN_lt lA
   have CdB := Lib.hid (double_any B lB)
   have CtB := Lib.hid (triple_any B lB)
   have ldB := dblN_lt lB
   have ltB := tripN_lt lB
   have CdC := Lib.hid (double_any C lC)
   have CtC := Lib.hid (triple_any C lC)
   have ldC := dblN_lt lC
   have ltC := tripN_lt lC
   have CdD := Lib.hid (double_any D lD)
   have CtD := Lib.hid (triple_any D lD)
   have ldD := dblN_lt lD
   have ltD := tripN_lt lD
   generalize dblN A = DA at *
   generalize tripN A = TA at *
   generalize dblN B = DB at *
   generalize tripN B = TB at *
   generalize dblN C = DC at *
   generalize tripN C = TC at *
   generalize dblN D = DD at *
   generalize tripN D = TD at *
   have x01 := u8_xor DA TB ldA ltB
   have y01 := xor_256 ldA ltB
   generalize DA ^^^ TB = X01 at *
   have x02 := u8_xor X01 C y01 lC
   have y02 := xor_256 y01 lC
   generalize X01 ^^^ C = X02 at *
   have x03 := u8_xor X02 D y02 lD
   have y03 := xor_256 y02 lD
   generalize X02 ^^^ D = X03 at *
   have c := K0.cell (m) (by omega)
   have fz := Blk.frozen K0 (m)
   go_wp2_with fail
   refine (CdA.out _).mono ?_
   rintro _ w9 ⟨rfl, b⟩
   replace K0 := K0.below b
   replace K1 := K1.below b
   replace hB := hB.trans (b.mono hB.size)
   clear b c fz
   have c := K0.cell (m) (by omega)
   have fz := Blk.frozen K0 (m)
   go_wp2_with fail
   refine (CtB.out _).mono ?_
   rintro _ w9 ⟨rfl, b⟩
   replace K0 := K0.below b
   replace K1 := K1.below b
   replace hB := hB.trans (b.mono hB.size)
   clear b c fz
   have c := K0.cell (m) (by omega)
   have fz := Blk.frozen K0 (m)
   have K0' := K0.set (m) (MX (mixP f) f (m + 1)) (MX_step _ _ _)
   rw [MX_new, v0] at K0'
   have K1' := K1.far (i := m) (show w.heap.size + 1 ≠ w.heap.size by omega) (.int .u8 (X03 : Int))
   have hB' := hB.setCell (p := ⟨w.heap.size, m, none⟩) (Nat.le_refl _) (.int .u8 (X03 : Int))
   clear K0 K1 hB
   go_upto_region 6 with fail
   clear c fz
   generalize World.setCell w9 _ _ = V0 at *
   have K0 := K0'
   have K1 := K1'
   have hB := hB'
   clear K0' K1' hB'
   have x11 := u8_xor A DB lA ldB
   have y11 := xor_256 lA ldB
   generalize A ^^^ DB = X11 at *
   have x12 := u8_xor X11 TC y11 ltC
   have y12 := xor_256 y11 ltC
   generalize X11 ^^^ TC = X12 at *
   have x13 := u8_xor X12 D y12 lD
   have y13 := xor_256 y12 lD
   generalize X12 ^^^ D = X13 at *
   have c := K0.cell (m + 1) (by omega)
   have fz := Blk.frozen K0 (m + 1)
   go_wp2_with fail
   refine (CdB.out _).mono ?_
   rintro _ w9 ⟨rfl, b⟩
   replace K0 := K0.below b
   replace K1 := K1.below b
   replace hB := hB.trans (b.mono hB.size)
   clear b c fz
   have c := K0.cell (m + 1) (by omega)
   have fz := Blk.frozen K0 (m + 1)
   go_wp2_with fail
   refine (CtC.out _).mono ?_
   rintro _ w9 ⟨rfl, b⟩
   replace K0 := K0.below b
   replace K1 := K1.below b
   replace hB := hB.trans (b.mono hB.size)
   clear b c fz
   have c := K0.cell (m + 1) (by omega)
   have fz := Blk.frozen K0 (m + 1)
   have K0' := K0.set (m + 1) (MX (mixP f) f (m + 2)) (MX_step _ _ _)
   rw [MX_new, v1] at K0'
   have K1' := K1.far (i := m + 1) (show w.heap.size + 1 ≠ w.heap.size by omega) (.int .u8 (X13 : Int))
   have hB' := hB.setCell (p := ⟨w.heap.size, m + 1, none⟩) (Nat.le_refl _) (.int .u8 (X13 : Int))
   clear K0 K1 hB
   go_upto_region 7 with fail
   clear c fz
   generalize World.setCell w9 _ _ = V1 at *
   have K0 := K0'
   have K1 := K1'
   have hB := hB'
   clear K0' K1' hB'
   have x21 := u8_xor A B lA lB
   have y21 := xor_256 lA lB
   generalize A ^^^ B = X21 at *
   have x22 := u8_xor X21 DC y21 ldC
   have y22 := xor_256 y21 ldC
   generalize X21 ^^^ DC = X22 at *
   have x23 := u8_xor X22 TD y22 ltD
   have y23 := xor_256 y22 ltD
   generalize X22 ^^^ TD = X23 at *
   have c := K0.cell (m + 2) (by omega)
   have fz := Blk.frozen K0 (m + 2)
   go_wp2_with fail
   refine (CdC.out _).mono ?_
   rintro _ w9 ⟨rfl, b⟩
   replace K0 := K0.below b
   replace K1 := K1.below b
   replace hB := hB.trans (b.mono hB.size)
   clear b c fz
   have c := K0.cell (m + 2) (by omega)
   have fz := Blk.frozen K0 (m + 2)
   go_wp2_with fail
   refine (CtD.out _).mono ?_
   rintro _ w9 ⟨rfl, b⟩
   replace K0 := K0.below b
   replace K1 := K1.below b
   replace hB := hB.trans (b.mono hB.size)
   clear b c fz
   have c := K0.cell (m + 2) (by omega)
   have fz := Blk.frozen K0 (m + 2)
   have K0' := K0.set (m + 2) (MX (mixP f) f (m + 3)) (MX_step _ _ _)
   rw [MX_new, v2] at K0'
   have K1' := K1.far (i := m + 2) (show w.heap.size + 1 ≠ w.heap.size by omega) (.int .u8 (X23 : Int))
   have hB' := hB.setCell (p := ⟨w.heap.size, m + 2, none⟩) (Nat.le_refl _) (.int .u8 (X23 : Int))
   clear K0 K1 hB
   go_upto_region 8 with fail
   clear c fz
   generalize World.setCell w9 _ _ = V2 at *
   have K0 := K0'
   have K1 := K1'
   have hB := hB'
   clear K0' K1' hB'
   have x31 := u8_xor TA B ltA lB
   have y31 := xor_256 ltA lB
   generalize TA ^^^ B = X31 at *
   have x32 := u8_xor X31 C y31 lC
   have y32 := xor_256 y31 lC
   generalize X31 ^^^ C = X32 at *
   have x33 := u8_xor X32 DD y32 ldD
   have y33 := xor_256 y32 ldD
   generalize X32 ^^^ DD = X33 at *
   have c := K0.cell (m + 3) (by omega)
   have fz := Blk.frozen K0 (m + 3)
   go_wp2_with fail
   refine (CtA.out _).mono ?_
   rintro _ w9 ⟨rfl, b⟩
   replace K0 := K0.below b
   replace K1 := K1.below b
   replace hB := hB.trans (b.mono hB.size)
   clear b c fz
   have c := K0.cell (m + 3) (by omega)
   have fz := Blk.frozen K0 (m + 3)
   go_wp2_with fail
   refine (CdD.out _).mono ?_
   rintro _ w9 ⟨rfl, b⟩
   replace K0 := K0.below b
   replace K1 := K1.below b
   replace hB := hB.trans (b.mono hB.size)
   clear b c fz
   have c := K0.cell (m + 3) (by omega)
   have fz := Blk.frozen K0 (m + 3)
   have K0' := K0.set (m + 3) (MX (mixP f) f (m + 4)) (MX_step _ _ _)
   rw [MX_new, v3] at K0'
   have K1' := K1.far (i := m + 3) (show w.heap.size + 1 ≠ w.heap.size by omega) (.int .u8 (X33 : Int))
   have hB' := hB.setCell (p := ⟨w.heap.size, m + 3, none⟩) (Nat.le_refl _) (.int .u8 (X33 : Int))
   clear K0 K1 hB
   go_wp2
   exact ⟨⟨m + 4, by omega, by omega, by congr 1, K0', K1', hB'⟩, by simp only [intOf]; omega⟩
end Go.Proofs.YtpihgljdbpnehaaDoor
