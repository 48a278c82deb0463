/- Contracts of field.ones and field.Power. -/
import Derived.Test.YtjaomgildhiddaaDoorFi
namespace Go.Proofs.YtjaomgildhiddaaDoor
open Go.RowKit

/-- 32 bytes 255, but for the lowest and the highest one. -/
def onesOf (lo hi i : Nat) : Nat := if i = 0 then lo else if i = 31 then hi else 255
theorem info_uint8 : (Tryd.prog.info? 5).map (·.size) = some 1 := by kernel_rfl

structure OnesW (w wr : World) (k : Nat) : Prop where
  res : Blk wr w.heap.size 23 (Iv .u8 (List.replicate 32 0))
  key : Blk wr (w.heap.size + 1) 23 (Iv .u8 (fill 32 (fun _ => 255) k))
  b : Below w.heap.size w wr
theorem OnesW.step {w wr : World} {k : Nat} (h : OnesW w wr k) : OnesW w (wr.setCell ⟨w.heap.size + 1, k, none⟩ (.int .u8 255)) (k + 1) := by
  refine ⟨h.res.far (by simp) _, ?_, h.b.setCell (by simp) _⟩
  have := h.key.set k (.int .u8 255)
  rw [Iv_set, fill_set 32 (fun _ => 255) k] at this
  exact this
theorem ones_list (lo hi : Nat) : ((fill 32 (fun _ => 255) 32).set 0 ((lo : Nat) : Int)).set 31 ((hi : Nat) : Int) = (List.range 32).map fun i => ((onesOf lo hi i : Nat) : Int) := by
  simp [fill, List.range, List.range.loop, onesOf]

set_option maxHeartbeats 1000000 in
set_option maxRecDepth 100000 in
theorem ones_any (lo hi : Nat) (w : World) : Calls Tryd.prog 61 #[.int .u8 lo, .int .u8 hi] w fun e w' => e = .returned (Key ((List.range 32).map fun i => ((onesOf lo hi i : Nat) : Int))) ∧ Below w.heap.size w w' := by
  go_enter Tryd.func61, Tryd.ntmps61
  go_wp2
  generalize hW : World.alloc (World.alloc w _) _ = W
  have F0 : OnesW w W 0 := by
    subst hW
    exact ⟨(Blk.new _ _ _).alloc _, Blk.new' (by simp) _ _, ((Below.refl _ _).alloc (Nat.le_refl _) _).alloc (by simp) _⟩
  clear hW
  go_loopw [7] (fun i wr => ∃ k : Nat, k ≤ 32 ∧ i = .int .i64 k ∧ OnesW w wr k) (fun i _ => 32 - (intOf i).toNat)
  case atStart => exact ⟨0, by omega, rfl, F0⟩
  case round =>
    obtain ⟨k, hk, rfl, F⟩ := hrel
    clear F0
    by_cases hlt : k < 32
    · have c5 : wr.cell? ⟨w.heap.size + 1, k, none⟩ = some (.int .u8 0) := by
        rw [F.key.cell, Iv_get _ _ _ (by rw [fill_length]; omega), fill_getD _ _ _ _ hlt, if_neg (by omega)]
      have f5 := F.key.frozen k
      go_wp2
      exact ⟨⟨k + 1, by omega, by go_num, F.step⟩, by simp [intOf]; omega⟩
    · obtain rfl : k = 32 := by omega
      obtain ⟨HR, HK, HB⟩ := F
      have c0 : wr.cell? ⟨w.heap.size + 1, 0, none⟩ = some (.int .u8 255) := HK.cell 0
      have c31 : wr.cell? ⟨w.heap.size + 1, 31, none⟩ = some (.int .u8 255) := HK.cell 31
      have f0 := HK.frozen 0
      have f31 := HK.frozen 31
      have HK2 := (HK.set 0 (.int .u8 ((lo : Nat) : Int))).set 31 (.int .u8 ((hi : Nat) : Int))
      rw [Iv_set, Iv_set, ones_list] at HK2
      have HR2 := (HR.far (p := ⟨w.heap.size + 1, 0, none⟩) (by simp) (.int .u8 ((lo : Nat) : Int))).far (p := ⟨w.heap.size + 1, 31, none⟩) (by simp) (.int .u8 ((hi : Nat) : Int))
      have HB2 := (HB.setCell (p := ⟨w.heap.size + 1, 0, none⟩) (by simp) (.int .u8 ((lo : Nat) : Int))).setCell (p := ⟨w.heap.size + 1, 31, none⟩) (by simp) (.int .u8 ((hi : Nat) : Int))
      clear HR HK HB
      go_wp2_with (first | (refine wpList_load_row rfl 23 _ rfl (w.heap.size + 1) rfl 23 _ (0, 0) _ HK2 Tryd.underlying23 rfl (info_key _ (by simp)) ?_) | (refine wpList_store_row rfl 23 _ _ rfl w.heap.size _ rfl rfl 23 _ HR2 (info_key _ (by simp)) (by simp [Iv_size]) (Iv_one _ _) ?_))
      exact bodyPost_ret (results_cell_row rfl _ _ _ 23 _ (0, 0) _ rfl (HR2.row _) Tryd.underlying23 rfl (info_key _ (by simp))) rfl ⟨rfl, below_setRow HB2 (by omega) _⟩

end Go.Proofs.YtjaomgildhiddaaDoor
