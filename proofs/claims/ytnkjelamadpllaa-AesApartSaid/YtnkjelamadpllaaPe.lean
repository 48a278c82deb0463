/- A Cipher in memory; the program's moved: its contract. -/
import Derived.Test.YtnkjelamadpllaaPd
namespace Go.Proofs.Ytnkjelamadpllaa
open Go.RowKit

/-- A Cipher in block g: the rounds' keys, then the Subs. -/
def CI (w : World) (g : Nat) (ks S : List Nat) : Prop := Blk w g 44 (Iv .u8 (NI (ks ++ S)))
theorem CI.of_block {w w1 : World} {g : Nat} {ks S : List Nat} (h : CI w g ks S) (hb : w1.heap[g]? = w.heap[g]?) : CI w1 g ks S := Eq.trans hb h
theorem CI.lt {w : World} {g : Nat} {ks S : List Nat} (h : CI w g ks S) : g < w.heap.size := Blk.lt h
theorem CI.far {w : World} {g k i : Nat} {ks S : List Nat} (h : CI w g ks S) (hk : g ≠ k) (v : Value) : CI (w.setCell ⟨k, i, none⟩ v) g ks S := Blk.far (p := ⟨k, i, none⟩) h hk v
theorem CI.below {w w1 : World} {g : Nat} {ks S : List Nat} (h : CI w g ks S) (b : Below w.heap.size w w1) : CI w1 g ks S := Blk.below' h b
theorem CI.sub {w : World} {g : Nat} {ks S : List Nat} (h : CI w g ks S) (lk : ks.length = 176) (x : Nat) (hx : x < S.length) : w.cell? ⟨g, 176 + x, none⟩ = some (.int .u8 ((S.getD x 0 : Nat) : Int)) := by
  rw [Blk.cell h, NI_get _ _ (by rw [List.length_append]; omega)]
  congr 3
  rw [List.getElem_append_right (by omega)]
  simp [lk, hx]
set_option maxHeartbeats 4000000 in
set_option maxRecDepth 100000 in
theorem moved_f (gc : Nat) (ks S : List Nat) (lk : ks.length = 176) (lS : S.length = 256) (f : Nat → Nat) (fa : ∀ i, f i < 256) (w : World) (hC : CI w gc ks S) :
    Calls Try.prog 21 #[.pointer (some ⟨gc, 0, none⟩), .agg (Iv .u8 (NI (LB f)))] w fun e w' => e = .returned (.agg (Iv .u8 (NI (LB (shiftB S (LB f)))))) ∧ Below w.heap.size w w' := by
  go_enter Try.func21, Try.ntmps21
  go_upto_region 3 with fail
  generalize hW : World.alloc (World.alloc (World.alloc w _) _) _ = W
  have B0 : Below w.heap.size w W := hW ▸ (((Below.refl w.heap.size w).alloc (Nat.le_refl _) _).alloc (by simp) _).alloc (by simp; omega) _
  have K0 : BB W w.heap.size f := hW ▸ ((Blk.new w 24 (Iv .u8 (NI (LB f)))).alloc _).alloc _
  have K1 : BB W (w.heap.size + 1) (fun _ => 0) := hW ▸ (Blk.new' (by simp) _ (Iv .u8 (NI (LB fun _ => 0)))).alloc _
  have K2 : BB W (w.heap.size + 1 + 1) (MX (shiftB S (LB f)) (fun _ => 0) 0) := hW ▸ Blk.new' (by simp) _ (Iv .u8 (NI (LB fun _ => 0)))
  have gcl := hC.lt
  replace hC := hC.below B0
  clear hW
  go_loopw [7] (fun i wr => ∃ k : Nat, k ≤ 16 ∧ i = .int .i64 (k : Int) ∧ CI wr gc ks S ∧ BB wr w.heap.size f ∧ BB wr (w.heap.size + 1) (fun _ => 0) ∧ BB wr (w.heap.size + 1 + 1) (MX (shiftB S (LB f)) (fun _ => 0) k) ∧ Below w.heap.size w wr) (fun i _ => (16 - intOf i).toNat)
  case atStart => exact ⟨0, by omega, rfl, hC, K0, K1, K2, B0⟩
  case round =>
    clear K0 K1 K2 B0 hC
    obtain ⟨k, hk, rfl, hC, K0, K1, K2, hB⟩ := hrel
    by_cases h16 : k = 16
    · subst h16
      replace K2 := K2.congr (f' := shiftB S (LB f)) fun i hi => if_pos hi
      go_wp2_with (first | (refine wpList_load_row rfl 24 _ rfl (w.heap.size + 1 + 1) rfl 24 _ (0, 0) _ K2 Try.underlying24 rfl (info_bl _) ?_) | (refine wpList_store_row rfl 24 _ _ rfl (w.heap.size + 1) (Iv .u8 (NI (LB (shiftB S (LB f))))) rfl rfl 24 _ K1 (info_bl _) (by rw [Iv_size, Iv_size, NI_length, NI_length, LB_length, LB_length]) (Iv_one _ _) ?_))
      exact bodyPost_ret (results_cell_row rfl _ _ _ 24 _ (0, 0) _ rfl (Blk.row K1 (Iv .u8 (NI (LB (shiftB S (LB f)))))) Try.underlying24 rfl (info_bl _)) rfl ⟨rfl, below_setRow hB (by omega) _⟩
    · have i1 : (k : Int) < 16 := by omega
      have i0 : (0 : Int) ≤ (k : Int) := by omega
      obtain ⟨j, hj⟩ : ∃ j, j = (k + 4 * (k % 4)) % 16 := ⟨_, rfl⟩
      have j0 : j < 16 := by omega
      have t1 : (k : Int).tmod 4 = (k : Int) % 4 := rfl
      have w1' : IntKind.i64.wrap (4 * ((k : Int) % 4)) = 4 * ((k : Int) % 4) := by rw [IntKind.wrap_i64]; omega
      have w2' : IntKind.i64.wrap ((k : Int) + 4 * ((k : Int) % 4)) = (k : Int) + 4 * ((k : Int) % 4) := by rw [IntKind.wrap_i64]; omega
      have t2 : ((k : Int) + 4 * ((k : Int) % 4)).tmod 16 = (j : Int) := by rw [Int.tmod_eq_emod_of_nonneg (by omega)]; omega
      have j1 : (j : Int) < 16 := by omega
      have j2 : (0 : Int) ≤ (j : Int) := by omega
      go_upto_region 5 with fail
      rename_i aK
      refine wp_region_still_tail 15 (by kernel_rfl) (by kernel_rfl) ?_
      simp only [List.take_succ_cons, List.take_zero, List.drop_succ_cons, List.drop_zero]
      change wpStill _ _ (World.drew wr) (fun a' => wpList _ _ _ _ a' (World.drew wr)) _ _
      replace hC : CI wr.drew _ _ _ := hC.of_block rfl
      replace K0 : BB wr.drew _ _ := K0.of_block rfl
      replace K1 : BB wr.drew _ _ := K1.of_block rfl
      replace K2 : BB wr.drew _ _ := K2.of_block rfl
      replace hB := below_drew hB
      generalize World.drew wr = V at *
      have c0 := K0.cell j j0
      have lF := fa j
      have c1 := hC.sub lk (f j) (by omega)
      have c2 := K2.cell k (by omega)
      have f2 := Blk.frozen K2 k
      have hv : shiftB S (LB f) k = S.getD (f j) 0 := by
        unfold shiftB
        rw [← hj, LB_get f j j0]
      have K2' := K2.set k (MX (shiftB S (LB f)) (fun _ => 0) (k + 1)) (MX_step _ _ k)
      rw [MX_new, hv] at K2'
      generalize f j = F at *
      generalize S.getD F 0 = X at *
      have F0 : (0 : Int) ≤ (F : Int) := by omega
      have F1 : (F : Int) < 256 := by omega
      have K0' := K0.far (i := k) (show w.heap.size ≠ w.heap.size + 1 + 1 by omega) (.int .u8 (X : Int))
      have K1' := K1.far (i := k) (show w.heap.size + 1 ≠ w.heap.size + 1 + 1 by omega) (.int .u8 (X : Int))
      have hC' := hC.far (i := k) (show gc ≠ w.heap.size + 1 + 1 by omega) (.int .u8 (X : Int))
      have hB' := hB.setCell (p := ⟨w.heap.size + 1 + 1, k, none⟩) (show w.heap.size ≤ w.heap.size + 1 + 1 by omega) (.int .u8 (X : Int))
      clear K0 K1 K2 hB hC hv hj
      repeat still_step
      refine wpStill_nil ?_
      go_wp2
      exact ⟨⟨k + 1, by omega, rfl, hC', K0', K1', K2', hB'⟩, by simp only [intOf]; omega⟩
theorem moved_any (gc : Nat) (ks S b : List Nat) (lk : ks.length = 176) (lS : S.length = 256) (lb : b.length = 16) (bb : ∀ x ∈ b, x < 256) (w : World) (hC : CI w gc ks S) :
    Calls Try.prog 21 #[.pointer (some ⟨gc, 0, none⟩), .agg (Iv .u8 (NI b))] w fun e w' => e = .returned (.agg (Iv .u8 (NI (movedL S b)))) ∧ Below w.heap.size w w' := by
  have h := moved_f gc ks S lk lS (fun i => b.getD i 0) (fun i => getD_lt bb i) w hC
  rw [LB_of b lb] at h
  exact h
end Go.Proofs.Ytnkjelamadpllaa
