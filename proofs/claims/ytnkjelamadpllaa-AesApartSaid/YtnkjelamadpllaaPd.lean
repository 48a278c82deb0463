/- The program's joined: its contract. -/
import Derived.Test.YtnkjelamadpllaaPc
import Derived.StillTailTactics
namespace Go.Proofs.Ytnkjelamadpllaa
open Go.RowKit

theorem NI_of (l : List Nat) (h : l.length = 16) : NI l = NI (LB fun i => l.getD i 0) := (NI_LB l h).symm
theorem MX_step (f g : Nat → Nat) (k : Nat) : ∀ i, i ≠ k → MX f g (k + 1) i = MX f g k i := fun i hi => by
  unfold MX
  by_cases hik : i < k <;> simp [hik] <;> omega
theorem MX_new (f g : Nat → Nat) (k : Nat) : MX f g (k + 1) k = f k := if_pos (by omega)
theorem MX_old (f g : Nat → Nat) (k : Nat) : MX f g k k = g k := if_neg (by omega)
theorem BB.of_block {w w1 : World} {g : Nat} {f : Nat → Nat} (h : BB w g f) (hb : w1.heap[g]? = w.heap[g]?) : BB w1 g f := Eq.trans hb h
theorem BB.far {w : World} {g k i : Nat} {f : Nat → Nat} (h : BB w g f) (hk : g ≠ k) (v : Value) : BB (w.setCell ⟨k, i, none⟩ v) g f := Blk.far (p := ⟨k, i, none⟩) h hk v
theorem BB.below {w w1 : World} {g : Nat} {f : Nat → Nat} (h : BB w g f) (b : Below w.heap.size w w1) : BB w1 g f := Blk.below' h b
theorem z16_is : (Iv .u8 (NI (LB fun _ => 0))) = #[.int .u8 0, .int .u8 0, .int .u8 0, .int .u8 0, .int .u8 0, .int .u8 0, .int .u8 0, .int .u8 0, .int .u8 0, .int .u8 0, .int .u8 0, .int .u8 0, .int .u8 0, .int .u8 0, .int .u8 0, .int .u8 0] := rfl
set_option maxHeartbeats 4000000 in
set_option maxRecDepth 100000 in
theorem joined_f (f g : Nat → Nat) (fa : ∀ i, f i < 256) (fb : ∀ i, g i < 256) (w : World) :
    Calls Try.prog 19 #[.agg (Iv .u8 (NI (LB f))), .agg (Iv .u8 (NI (LB g)))] w fun e w' => e = .returned (.agg (Iv .u8 (NI (LB fun i => f i ^^^ g i)))) ∧ Below w.heap.size w w' := by
  go_enter Try.func19, Try.ntmps19
  go_upto_region 2 with fail
  generalize hW : World.alloc (World.alloc (World.alloc w _) _) _ = W
  have B0 : Below w.heap.size w W := hW ▸ (((Below.refl w.heap.size w).alloc (Nat.le_refl _) _).alloc (by simp) _).alloc (by simp; omega) _
  have K0 : BB W w.heap.size (MX (fun i => f i ^^^ g i) f 0) := hW ▸ ((Blk.new w 24 (Iv .u8 (NI (LB f)))).alloc _).alloc _
  have K1 : BB W (w.heap.size + 1) g := hW ▸ (Blk.new' (by simp) _ _).alloc _
  have K2 : BB W (w.heap.size + 1 + 1) (fun _ => 0) := hW ▸ Blk.new' (by simp) _ (Iv .u8 (NI (LB fun _ => 0)))
  clear hW
  go_loopw [6] (fun i wr => ∃ k : Nat, k ≤ 16 ∧ i = .int .i64 (k : Int) ∧ BB wr w.heap.size (MX (fun i => f i ^^^ g i) f k) ∧ BB wr (w.heap.size + 1) g ∧ BB wr (w.heap.size + 1 + 1) (fun _ => 0) ∧ Below w.heap.size w wr) (fun i _ => (16 - intOf i).toNat)
  case atStart => exact ⟨0, by omega, rfl, K0, K1, K2, B0⟩
  case round =>
    clear K0 K1 K2 B0
    obtain ⟨k, hk, rfl, K0, K1, K2, hB⟩ := hrel
    by_cases h16 : k = 16
    · subst h16
      replace K0 := K0.congr (f' := fun i => f i ^^^ g i) fun i hi => if_pos hi
      obtain ⟨x, hx⟩ : ∃ x, x = fun i => f i ^^^ g i := ⟨_, rfl⟩
      rw [← hx] at K0
      have HX := Lib.hid hx
      clear hx
      go_wp2_with (first | (refine wpList_load_row rfl 24 _ rfl w.heap.size rfl 24 _ (0, 0) _ K0 Try.underlying24 rfl (info_bl _) ?_) | (refine wpList_store_row rfl 24 _ _ rfl (w.heap.size + 1 + 1) (Iv .u8 (NI (LB x))) rfl rfl 24 _ K2 (info_bl _) (by rw [Iv_size, Iv_size, NI_length, NI_length, LB_length, LB_length]) (Iv_one _ _) ?_))
      exact bodyPost_ret (results_cell_row rfl _ _ _ 24 _ (0, 0) _ rfl (Blk.row K2 (Iv .u8 (NI (LB x)))) Try.underlying24 rfl (info_bl _)) rfl ⟨by rw [HX.out], below_setRow hB (by omega) _⟩
    · have i1 : (k : Int) < 16 := by omega
      have i0 : (0 : Int) ≤ (k : Int) := by omega
      go_upto_region 4 with fail
      rename_i aK
      refine wp_region_still_tail 8 (by kernel_rfl) (by kernel_rfl) ?_
      simp only [List.take_succ_cons, List.take_zero, List.drop_succ_cons, List.drop_zero]
      change wpStill _ _ (World.drew wr) (fun a' => wpList _ _ _ _ a' (World.drew wr)) _ _
      replace K0 : BB wr.drew _ _ := K0.of_block rfl
      replace K1 : BB wr.drew _ _ := K1.of_block rfl
      replace K2 : BB wr.drew _ _ := K2.of_block rfl
      replace hB := below_drew hB
      generalize World.drew wr = V at *
      have c0 := K0.cell k (by omega)
      have c1 := K1.cell k (by omega)
      have f0 := Blk.frozen K0 k
      rw [MX_old] at c0
      have ex := u8_xor _ _ (fa k) (fb k)
      have K0' := K0.set k (MX (fun i => f i ^^^ g i) f (k + 1)) (MX_step _ _ k)
      rw [MX_new] at K0'
      generalize f k ^^^ g k = X at *
      have K1' := K1.far (i := k) (show w.heap.size + 1 ≠ w.heap.size by omega) (.int .u8 (X : Int))
      have K2' := K2.far (i := k) (show w.heap.size + 1 + 1 ≠ w.heap.size by omega) (.int .u8 (X : Int))
      have hB' := hB.setCell (p := ⟨w.heap.size, k, none⟩) (Nat.le_refl _) (.int .u8 (X : Int))
      clear K0 K1 K2 hB
      generalize f k = F at *
      generalize g k = G at *
      repeat still_step
      refine wpStill_nil ?_
      go_wp2
      exact ⟨⟨k + 1, by omega, rfl, K0', K1', K2', hB'⟩, by simp only [intOf]; omega⟩
theorem joined_any (a b : List Nat) (la : a.length = 16) (lb : b.length = 16) (ba : ∀ x ∈ a, x < 256) (bb : ∀ x ∈ b, x < 256) (w : World) :
    Calls Try.prog 19 #[.agg (Iv .u8 (NI a)), .agg (Iv .u8 (NI b))] w fun e w' => e = .returned (.agg (Iv .u8 (NI (xorB a b)))) ∧ Below w.heap.size w w' := by
  rw [NI_of a la, NI_of b lb]
  exact joined_f _ _ (fun i => getD_lt ba i) (fun i => getD_lt bb i) w
end Go.Proofs.Ytnkjelamadpllaa
