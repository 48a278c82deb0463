/- sha2's added: each word added to its own. -/
import Derived.Test.YtdmhngkedgkndaaDoorMHb
namespace Go.Proofs.YtdmhngkedgkndaaDoor
open Go.RowKit
/-- Eight words as a value. -/
def W8 (f : Nat → Nat) : List Int := (List.range 8).map fun i => ((f i : Nat) : Int)
def V8 (f : Nat → Nat) : Value := .agg (Iv .u32 (W8 f))
theorem W8_length (f : Nat → Nat) : (W8 f).length = 8 := by simp [W8]
theorem info_W8 (f : Nat → Nat) : (Tryd.prog.info? 71).map (·.size) = some (Iv .u32 (W8 f)).size := by
  rw [Iv_size, W8_length]
  kernel_rfl
theorem W8_get (f : Nat → Nat) (i : Nat) (h : i < 8) : (Iv .u32 (W8 f))[i]? = some (.int .u32 ((f i : Nat) : Int)) := by
  rw [Iv_get _ _ _ (by rw [W8_length]; exact h)]
  simp [W8, h]
theorem W8_set (f g : Nat → Nat) (k : Nat) (_hk : g k = g k) (ho : ∀ i, i ≠ k → g i = f i) : (W8 f).set k ((g k : Nat) : Int) = W8 g := by
  unfold W8
  apply List.ext_getElem (by simp)
  intro i h1 h2
  simp only [List.getElem_set, List.getElem_map, List.getElem_range]
  by_cases hj : k = i
  · rw [if_pos hj, hj]
  · rw [if_neg hj, ho i (fun e => hj e.symm)]
def plus8 (f g : Nat → Nat) (k i : Nat) : Nat := if i < k then (f i + g i) % 4294967296 else f i
structure AdW (f g : Nat → Nat) (w wr : World) (k : Nat) : Prop where
  a : Blk wr w.heap.size 71 (Iv .u32 (W8 (plus8 f g k)))
  b : Blk wr (w.heap.size + 1) 71 (Iv .u32 (W8 g))
  r : Blk wr (w.heap.size + 1 + 1) 71 (Iv .u32 (List.replicate 8 0))
  k : Below w.heap.size w wr
theorem AdW.drew {f g : Nat → Nat} {w wr : World} {k : Nat} (h : AdW f g w wr k) : AdW f g w wr.drew k := ⟨h.a, h.b, h.r, below_drew h.k⟩
theorem AdW.step {f g : Nat → Nat} {w wr : World} {k : Nat} (h : AdW f g w wr k) : AdW f g w (wr.setCell ⟨w.heap.size, k, none⟩ (.int .u32 (((f k + g k) % 4294967296 : Nat) : Int))) (k + 1) := by
  refine ⟨?_, h.b.far (by simp) _, h.r.far (by simp; omega) _, h.k.setCell (by simp) _⟩
  have hs := h.a.set k (.int .u32 (((f k + g k) % 4294967296 : Nat) : Int))
  rw [Iv_set] at hs
  have e := W8_set (plus8 f g k) (plus8 f g (k + 1)) k rfl (fun i hi => by unfold plus8; by_cases h : i < k <;> simp [h] <;> omega)
  rw [show plus8 f g (k + 1) k = (f k + g k) % 4294967296 from if_pos (by omega)] at e
  rw [e] at hs
  exact hs
theorem plus8_zero (f g : Nat → Nat) : plus8 f g 0 = f := by
  funext i
  unfold plus8
  rw [if_neg (Nat.not_lt_zero i)]
set_option maxHeartbeats 2000000 in
set_option maxRecDepth 100000 in
theorem added_any (f g : Nat → Nat) (w : World) (hf : ∀ i, i < 8 → f i < 4294967296) (hg : ∀ i, i < 8 → g i < 4294967296) :
    Calls Tryd.prog 50 #[V8 f, V8 g] w fun e w' => e = .returned (V8 fun i => (f i + g i) % 4294967296) ∧ Below w.heap.size w w' := by
  unfold V8
  go_enter Tryd.func50, Tryd.ntmps50
  go_wp2_with fail
  generalize hW : World.alloc (World.alloc (World.alloc w _) _) _ = W
  have F0 : AdW f g w W 0 := by
    subst hW
    refine ⟨?_, (Blk.new' (by simp) _ _).alloc _, Blk.new' (by simp) _ _, (((Below.refl _ _).alloc (Nat.le_refl _) _).alloc (by simp) _).alloc (by simp; omega) _⟩
    rw [plus8_zero]
    exact ((Blk.new _ _ _).alloc _).alloc _
  clear hW
  go_loopw [5, 6] (fun _ i wr => ∃ k : Nat, k ≤ 8 ∧ i = .int .i64 k ∧ AdW f g w wr k) (fun _ i _ => 8 - (intOf i).toNat)
  case atStart => exact ⟨0, by omega, rfl, F0⟩
  case round =>
    obtain ⟨k, hk, rfl, F⟩ := hrel
    clear F0
    by_cases hlt : k < 8
    · go_upto_region 4 with fail
      refine wp_region_still_tail 8 (by kernel_rfl) (by kernel_rfl) ?_
      simp only [List.take_succ_cons, List.take_zero, List.drop_succ_cons, List.drop_zero]
      change wpStill _ _ (World.drew wr) (fun a' => wpList _ _ _ _ a' (World.drew wr)) _ _
      have G := F.drew
      clear F
      generalize World.drew wr = V at G ⊢
      have c1 : V.cell? ⟨w.heap.size, k, none⟩ = some (.int .u32 ((f k : Nat) : Int)) := by
        rw [G.a.cell, W8_get _ _ hlt, show plus8 f g k k = f k from if_neg (by omega)]
      have c2 : V.cell? ⟨w.heap.size + 1, k, none⟩ = some (.int .u32 ((g k : Nat) : Int)) := by
        rw [G.b.cell, W8_get _ _ hlt]
      have f1 := G.a.frozen k
      have l1 := hf k hlt
      have l2 := hg k hlt
      have i1 : (0 : Int) ≤ (k : Int) := by omega
      have i2 : (k : Int) < 8 := by omega
      repeat still_step
      refine wpStill_nil ?_
      go_wp2
      refine ⟨⟨k + 1, by omega, by go_num, ?_⟩, by simp [intOf]; omega⟩
      have := G.step
      rw [show (((f k + g k) % 4294967296 : Nat) : Int) = (((f k : Nat) : Int) + ((g k : Nat) : Int)) % 4294967296 by omega] at this
      exact this
    · obtain rfl : k = 8 := by omega
      have HA := F.a
      have HR := F.r
      have HB := F.k
      have e : W8 (plus8 f g 8) = W8 fun i => (f i + g i) % 4294967296 := by
        unfold W8
        exact List.map_congr_left fun j hj => by rw [show plus8 f g 8 j = (f j + g j) % 4294967296 from if_pos (List.mem_range.1 hj)]
      rw [e] at HA
      clear F e
      go_wp2_with (first | (refine wpList_load_row rfl 71 _ rfl (w.heap.size) rfl 71 _ (0, 0) _ HA Tryd.underlying71 rfl (info_W8 _) ?_) | (refine wpList_store_row rfl 71 _ _ rfl (w.heap.size + 1 + 1) (Iv .u32 (W8 fun i => (f i + g i) % 4294967296)) rfl rfl 71 _ HR (info_W8 _) (by rw [Iv_size, Iv_size, W8_length]; rfl) (Iv_one _ _) ?_))
      exact bodyPost_ret (results_cell_row rfl _ _ _ 71 _ (0, 0) _ rfl (HR.row _) Tryd.underlying71 rfl (info_W8 _)) rfl ⟨rfl, below_setRow HB (by omega) _⟩
end Go.Proofs.YtdmhngkedgkndaaDoor
