/- Sixteen bytes in a Block. -/
import Derived.Test.YteaddadmdjjfaaaBn
namespace Go.Proofs.Yteaddadmdjjfaaa
open Go.RowKit

/-- Sixteen bytes in a Block. -/
def BB (w : World) (g : Nat) (f : Nat → Nat) : Prop := Blk w g 35 (Iv .u8 (NI (LB f)))
theorem BB.cell {w : World} {g : Nat} {f : Nat → Nat} (h : BB w g f) (i : Nat) (hi : i < 16) : w.cell? ⟨g, i, none⟩ = some (.int .u8 ((f i : Nat) : Int)) := by
  rw [Blk.cell h, NI_get _ _ (by rw [LB_length]; exact hi)]
  simp [LB]
theorem NI_set (l : List Nat) (k x : Nat) : (NI l).set k ((x : Nat) : Int) = NI (l.set k x) := by
  unfold NI
  rw [List.map_set]
theorem LB_set (f f' : Nat → Nat) (k : Nat) (ho : ∀ i, i ≠ k → f' i = f i) : (LB f).set k (f' k) = LB f' := by
  apply List.ext_getElem (by simp [LB])
  intro i h1 h2
  simp only [LB, List.getElem_set, List.getElem_map, List.getElem_range]
  by_cases hj : k = i
  · rw [if_pos hj, hj]
  · rw [if_neg hj, ho i (fun e => hj e.symm)]
theorem BB.set {w : World} {g : Nat} {f : Nat → Nat} (h : BB w g f) (k : Nat) (f' : Nat → Nat) (ho : ∀ i, i ≠ k → f' i = f i) : BB (w.setCell ⟨g, k, none⟩ (.int .u8 ((f' k : Nat) : Int))) g f' := by
  have hs := Blk.set h k (.int .u8 ((f' k : Nat) : Int))
  rw [Iv_set, NI_set, LB_set f f' k ho] at hs
  exact hs
theorem BB.congr {w : World} {g : Nat} {f f' : Nat → Nat} (h : BB w g f) (e : ∀ i, i < 16 → f i = f' i) : BB w g f' := by
  unfold BB at h ⊢
  rwa [LB_congr e] at h
theorem info_bl (f : Nat → Nat) : (Try.prog.info? 35).map (·.size) = some (Iv .u8 (NI (LB f))).size := info_b _ (LB_length f)
theorem LB_bytes {f : Nat → Nat} (h : ∀ i, i < 16 → f i < 256) : ∀ x ∈ LB f, x < 256 := fun x hx => by
  obtain ⟨i, hi, rfl⟩ := List.mem_map.1 hx
  exact h i (List.mem_range.1 hi)
end Go.Proofs.Yteaddadmdjjfaaa
