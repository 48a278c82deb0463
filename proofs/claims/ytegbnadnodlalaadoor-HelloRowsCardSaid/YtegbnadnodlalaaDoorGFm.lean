/- The contract of Awake: the chapter's examples hold. -/
import Derived.Test.YtegbnadnodlalaaDoorGFk0GFl
namespace Go.Proofs.YtegbnadnodlalaaDoor
open Go.RowKit
structure AwakeW (w wr : World) (k : Nat) : Prop where
  key : Blk wr w.heap.size 34 (Iv .u8 (fill 32 (fun _ => 255) k))
  b : Below w.heap.size w wr
theorem AwakeW.step {w wr : World} {k : Nat} (h : AwakeW w wr k) : AwakeW w (wr.setCell ⟨w.heap.size, k, none⟩ (.int .u8 255)) (k + 1) := by
  refine ⟨?_, h.b.setCell (by simp) _⟩
  have := h.key.set k (.int .u8 255)
  rw [Iv_set, fill_set 32 (fun _ => 255) k] at this
  exact this
end Go.Proofs.YtegbnadnodlalaaDoor
