/- The reference's Of at bytes of any length. -/
import Derived.Test.YtnglancehmdlpaaRq
import Derived.Test.YtnglancehmdlpaaRr
namespace Go.Proofs.Ytnglancehmdlpaa
open Go.RowKit

/-- The memory of Of behind k rounds. -/
structure RObW (gb o n m : Nat) (f : Nat → Nat) (w wr : World) (k : Nat) : Prop where
  by_ : By wr gb o n f
  out : Blk wr w.heap.size 37 (Iv .u32 ((List.range m).map fun j => ((dAt (leTo f k) j : Nat) : Int)))
  k : Below w.heap.size w wr
  la : gb < w.heap.size
theorem RObW.drew {gb o n m : Nat} {f : Nat → Nat} {w wr : World} {k : Nat} (h : RObW gb o n m f w wr k) : RObW gb o n m f w wr.drew k := ⟨h.by_.drew, h.out, below_drew h.k, h.la⟩
theorem By.far {w : World} {gb o n : Nat} {f : Nat → Nat} (h : By w gb o n f) {p : Addr} (hp : gb ≠ p.block) (v : Value) : By (w.setCell p v) gb o n f :=
  ⟨fun i hi => (World.cell?_setCell_other w p ⟨gb, o + i, none⟩ v (fun e => hp (by rw [e]))).trans (h.cell i hi), h.lt, by simpa [World.setCell] using h.blk⟩
theorem RObW.step {gb o n m : Nat} {f : Nat → Nat} {w wr : World} {k : Nat} (h : RObW gb o n m f w wr k) (hf : ∀ i, f i < 256) :
    RObW gb o n m f w (wr.setCell ⟨w.heap.size, k / 2, none⟩ (.int .u32 (bits .or .u32 ((dAt (leTo f k) (k / 2) : Nat) : Int) (IntKind.u32.wrap (((f k : Nat) : Int) * 2 ^ (8 * (k % 2))))))) (k + 1) := by
  have hla := h.la
  rw [or_byte32 _ _ k (leTo_lt f hf k) (hf k)]
  refine ⟨h.by_.far (by simp; omega) _, ?_, h.k.setCell (by simp) _, h.la⟩
  have hs := h.out.set (k / 2) (.int .u32 ((dAt (leTo f k + f k * 256 ^ k) (k / 2) : Nat) : Int))
  rw [Iv_set] at hs
  have e : ((List.range m).map fun j => ((dAt (leTo f k) j : Nat) : Int)).set (k / 2) ((dAt (leTo f k + f k * 256 ^ k) (k / 2) : Nat) : Int) = (List.range m).map fun j => ((dAt (leTo f (k + 1)) j : Nat) : Int) := by
    apply List.ext_getElem (by simp)
    intro j h1 h2
    simp only [List.length_set, List.length_map, List.length_range] at h1
    simp only [List.getElem_set, List.getElem_map, List.getElem_range, leTo]
    by_cases hj : k / 2 = j
    · rw [if_pos hj, hj]
    · rw [if_neg hj]
      by_cases hj2 : j < k / 2
      · rw [d_same _ _ _ _ hj2]
      · rw [d_high _ k j (leTo_lt f hf k) (by omega)]
        have := leTo_lt f hf (k + 1)
        rw [show leTo f k + f k * 256 ^ k = leTo f (k + 1) from rfl, d_high _ (k + 1) j this (by omega)]
  rw [e] at hs
  exact hs

set_option maxHeartbeats 2000000 in
set_option maxRecDepth 100000 in
theorem rof_by (gb o n c m : Nat) (f : Nat → Nat) (w : World) (hb : By w gb o n f) (hn : n < 4294967296) (hm : m = (n + 1) / 2) :
    Calls Try.prog 14 #[.slice (some ⟨gb, o, none⟩) n c] w (RetSl w m (dAt (leTo f n))) := by
  have hmk : ∀ w, (Instr.makeSlice 30 (.int .i64 m) (.int .i64 m)).run Try.prog w = .ok (.slice (some ⟨w.heap.size, 0, none⟩) m m) (w.alloc (.cells (Iv .u32 ((List.range m).map fun j => ((dAt (leTo f 0) j : Nat) : Int))) 37)) := by
    intro w
    have e : (List.range m).map (fun j => ((dAt (leTo f 0) j : Nat) : Int)) = fill m (fun _ => 0) 0 := by
      apply List.ext_getElem (by simp [fill])
      intro i h1 h2
      simp [dAt, leTo, fill]
    rw [e]
    exact make32 m (by omega) (fun _ => 0) w
  have e0 : (0 : Int) ≤ (n : Int) + 1 := by omega
  have e1 : ((n : Int) + 1) / 2 = (m : Int) := by omega
  have e3 : IntKind.i64.wrap ((n : Int) + 1) = (n : Int) + 1 := by rw [IntKind.wrap_i64]; omega
  have e4 : IntKind.i64.wrap (m : Int) = (m : Int) := by rw [IntKind.wrap_i64]; omega
  rw [← e1] at hmk
  have HM := Lib.hid hm
  clear e1 e4 hm
  go_enter Try.func14, Try.ntmps14
  go_wp2
  generalize hW : World.alloc w _ = W
  have F0 : RObW gb o n m f w W 0 := by
    subst hW
    exact ⟨hb.below ((Below.refl _ _).alloc (Nat.le_refl _) _), Blk.new _ _ _, (Below.refl _ _).alloc (Nat.le_refl _) _, hb.blk⟩
  clear hW hmk e0 e3
  go_loopw [4] (fun i wr => ∃ k : Nat, k ≤ n ∧ i = .int .i64 k ∧ RObW gb o n m f w wr k) (fun i _ => n - (intOf i).toNat)
  case atStart => exact ⟨0, by omega, rfl, F0⟩
  case round =>
    obtain ⟨k, hk, rfl, F⟩ := hrel
    clear F0
    by_cases hlt : k < n
    · go_wp2
      refine wp_region_still_tail 19 (by kernel_rfl) (by kernel_rfl) ?_
      simp only [List.take_succ_cons, List.take_zero, List.drop_succ_cons, List.drop_zero]
      change wpStill _ _ (World.drew wr) (fun a' => wpList _ _ _ _ a' (World.drew wr)) _ _
      have G := F.drew
      clear F
      generalize World.drew wr = V at G ⊢
      have c4 : V.cell? ⟨w.heap.size, k / 2, none⟩ = some (.int .u32 ((dAt (leTo f k) (k / 2) : Nat) : Int)) := by
        rw [G.out.cell, Iv_get _ _ _ (by simp; rw [HM.out]; omega)]
        simp [show k / 2 < m by rw [HM.out]; omega]
      have c5 : V.cell? ⟨gb, o + k, none⟩ = some (.int .u8 ((f k : Nat) : Int)) := G.by_.cell k hlt
      have f4 := G.out.frozen (k / 2)
      have bk := hb.lt k
      have i1 : (0 : Int) ≤ (k : Int) := by omega
      have i2 : (k : Int) < (n : Int) := by omega
      have i3 : (0 : Int) ≤ (k : Int) / 2 := by omega
      have i4 : (k : Int) / 2 < (m : Int) := by rw [HM.out]; omega
      have i5 : ((k : Int) / 2).toNat = k / 2 := by omega
      have i6 : IntKind.i64.wrap ((k : Int) / 2) = (k : Int) / 2 := by rw [IntKind.wrap_i64]; omega
      have i7 : IntKind.i64.wrap (8 * ((k : Int) % 2)) = 8 * ((k : Int) % 2) := by rw [IntKind.wrap_i64]; omega
      have i9 : ((k : Int)).tmod 2 = (k : Int) % 2 := Int.tmod_eq_emod_of_nonneg i1
      have j0 : IntKind.u32.wrap ((f k : Nat) : Int) = ((f k : Nat) : Int) := by rw [IntKind.wrap_u32]; omega
      have j1 : (8 * ((k : Int) % 2)).toNat = 8 * (k % 2) := by omega
      have j2 : min (8 * (k % 2)) 32 = 8 * (k % 2) := by omega
      have i8 : (0 : Int) ≤ 8 * ((k : Int) % 2) := by omega
      repeat still_step
      refine wpStill_nil ?_
      clear i3 i4 i5 i6 i7 i8 i9 j0 j1 j2
      go_wp2
      exact ⟨⟨k + 1, by omega, by go_num, G.step hb.lt⟩, by simp [intOf]; omega⟩
    · obtain rfl : k = n := by omega
      obtain ⟨_, HO, HB, _⟩ := F
      have hh : ∀ i, m ≤ i → dAt (leTo f k) i = 0 := fun i hi => d_high _ k i (leTo_lt f hb.lt k) (by rw [HM.out] at hi; omega)
      generalize leTo f k = v at *
      go_wp2
      go_ret
      exact ⟨w.heap.size, _, rfl, Sl.of_blk HO (dAt_lt v) hh, Nat.le_refl _, HB⟩
end Go.Proofs.Ytnglancehmdlpaa
