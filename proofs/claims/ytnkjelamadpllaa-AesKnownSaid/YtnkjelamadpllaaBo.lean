/- Awake of aes: its contract, by Encrypt's. -/
import Derived.Test.YtnkjelamadpllaaBn
namespace Go.Proofs.Ytnkjelamadpllaa
open Go.RowKit

/-- Sixteen bytes in a Block. -/
def BB (w : World) (g : Nat) (f : Nat → Nat) : Prop := Blk w g 24 (Iv .u8 (NI (LB f)))
theorem BB.cell {w : World} {g : Nat} {f : Nat → Nat} (h : BB w g f) (i : Nat) (hi : i < 16) : w.cell? ⟨g, i, none⟩ = some (.int .u8 ((f i : Nat) : Int)) := by
  rw [Blk.cell h, NI_get _ _ (by rw [LB_length]; exact hi)]
  simp [LB]
theorem NI_set (l : List Nat) (k x : Nat) : (NI l).set k ((x : Nat) : Int) = NI (l.set k x) := by
  unfold NI
  rw [List.map_set]
theorem LB_set (f f' : Nat → Nat) (k : Nat) (ho : ∀ i, i ≠ k → f' i = f i) : (LB f).set k (f' k) = LB f' := by
  apply List.ext_getElem (by simp [LB])
  intro i h1 h2
  simp only [LB, List.getElem_set, List.getElem_map, List.getElem_range]
  by_cases hj : k = i
  · rw [if_pos hj, hj]
  · rw [if_neg hj, ho i (fun e => hj e.symm)]
theorem BB.set {w : World} {g : Nat} {f : Nat → Nat} (h : BB w g f) (k : Nat) (f' : Nat → Nat) (ho : ∀ i, i ≠ k → f' i = f i) : BB (w.setCell ⟨g, k, none⟩ (.int .u8 ((f' k : Nat) : Int))) g f' := by
  have hs := Blk.set h k (.int .u8 ((f' k : Nat) : Int))
  rw [Iv_set, NI_set, LB_set f f' k ho] at hs
  exact hs
theorem BB.congr {w : World} {g : Nat} {f f' : Nat → Nat} (h : BB w g f) (e : ∀ i, i < 16 → f i = f' i) : BB w g f' := by
  unfold BB at h ⊢
  rwa [LB_congr e] at h
theorem info_bl (f : Nat → Nat) : (Try.prog.info? 24).map (·.size) = some (Iv .u8 (NI (LB f))).size := info_b _ (LB_length f)
theorem LB_bytes {f : Nat → Nat} (h : ∀ i, i < 16 → f i < 256) : ∀ x ∈ LB f, x < 256 := fun x hx => by
  obtain ⟨i, hi, rfl⟩ := List.mem_map.1 hx
  exact h i (List.mem_range.1 hi)
def exE : List Nat := [0x69, 0xc4, 0xe0, 0xd8, 0x6a, 0x7b, 0x04, 0x30, 0xd8, 0xcd, 0xb7, 0x80, 0x70, 0xb4, 0xc5, 0x5a]
set_option maxHeartbeats 4000000 in
set_option maxRecDepth 100000 in
theorem awake_c (CE : EncC) (w : World) : Calls Try.prog 7 #[] w fun e w' => e = .returned (.bool true) ∧ Below w.heap.size w w' := by
  have C := Lib.hid (CE (LB fun i => i) (LB fun i => 17 * i) exE (LB_length _) (LB_length _) (LB_bytes fun i h => by omega) (LB_bytes fun i h => by omega) enc_example.symm)
  clear CE
  go_enter Try.func7, Try.ntmps7
  go_upto_region 2 with fail
  generalize hW : World.alloc (World.alloc w _) _ = W
  have B0 : Below w.heap.size w W := hW ▸ ((Below.refl w.heap.size w).alloc (Nat.le_refl _) _).alloc (by simp) _
  have K0 : BB W w.heap.size (MX (fun i => i) (fun _ => 0) 0) := hW ▸ (Blk.new w 24 (Iv .u8 (NI (LB fun _ => 0)))).alloc _
  have R0 : BB W (w.heap.size + 1) (MX (fun i => 17 * i) (fun _ => 0) 0) := hW ▸ Blk.new' (by simp) _ (Iv .u8 (NI (LB fun _ => 0)))
  clear hW
  go_wp2
  go_loopw [5] (fun i wr => ∃ k : Nat, k ≤ 16 ∧ i = .int .i64 (k : Int) ∧ BB wr w.heap.size (MX (fun i => i) (fun _ => 0) k) ∧ BB wr (w.heap.size + 1) (MX (fun i => 17 * i) (fun _ => 0) k) ∧ Below w.heap.size w wr) (fun i _ => (16 - intOf i).toNat)
  case atStart => exact ⟨0, by omega, rfl, K0, R0, B0⟩
  case round =>
    clear K0 R0 B0
    obtain ⟨k, hk, rfl, K, R, hB⟩ := hrel
    by_cases h16 : k = 16
    · subst h16
      have K2 := K.congr (f' := fun i => i) fun i hi => if_pos hi
      have R2 := R.congr (f' := fun i => 17 * i) fun i hi => if_pos hi
      clear K R
      go_wp2_with (first | (refine wpList_load_row rfl 24 _ rfl (w.heap.size) rfl 24 _ (0, 0) _ K2 Try.underlying24 rfl (info_bl _) ?_) | (refine wpList_load_row rfl 24 _ rfl (w.heap.size + 1) rfl 24 _ (0, 0) _ R2 Try.underlying24 rfl (info_bl _) ?_))
      refine (C.out _).mono ?_
      rintro _ w1 ⟨rfl, b1⟩
      replace hB := hB.trans (b1.mono hB.size)
      clear C b1 K2 R2
      go_upto_region 8 with (refine wpList_store_row rfl 24 _ _ rfl (w1.heap.size) (Iv .u8 (NI exE)) rfl rfl 24 _ (Blk.new w1 24 (Iv .u8 (NI (LB fun _ => 0)))) (info_b _ rfl) (by rw [Iv_size, Iv_size]; rfl) (Iv_one _ _) ?_)
      change Code.wp _ _ _ _ (World.setRow (w1.alloc (.cells (Iv .u8 (NI (LB fun _ => 0))) 24)) w1.heap.size _)
      have E := (Blk.new w1 24 (Iv .u8 (NI (LB fun _ => 0)))).row (Iv .u8 (NI exE))
      replace hB := hB.trans ((below_setRow ((Below.refl w1.heap.size w1).alloc (Nat.le_refl _) (.cells (Iv .u8 (NI (LB fun _ => 0))) 24)) (Nat.le_refl w1.heap.size) (Iv .u8 (NI exE))).mono hB.size)
      generalize World.setRow _ _ _ = V at E hB ⊢
      generalize w1.heap.size = g at E ⊢
      have c0 : V.cell? ⟨g, 0, none⟩ = some (.int .u8 105) := E.cell 0
      have c1 : V.cell? ⟨g, 1, none⟩ = some (.int .u8 196) := E.cell 1
      have c2 : V.cell? ⟨g, 2, none⟩ = some (.int .u8 224) := E.cell 2
      have c15 : V.cell? ⟨g, 15, none⟩ = some (.int .u8 90) := E.cell 15
      go_wp2
      go_ret
      exact ⟨rfl, hB⟩
    · have l0 : (k : Int) < 16 := by omega
      have l1 : (0 : Int) ≤ (k : Int) := by omega
      have w1 : wrap64 (17 * (k : Int)) = 17 * (k : Int) := by unfold wrap64; omega
      have w2 : (k : Int) % 256 = (k : Int) := by omega
      have w3 : 17 * (k : Int) % 256 = 17 * (k : Int) := by omega
      have K1 := K.set k (MX (fun i => i) (fun _ => 0) (k + 1)) (fun i hi => by unfold MX; by_cases hik : i < k <;> simp [hik] <;> omega)
      have e1 : MX (fun i => i) (fun _ => 0) (k + 1) k = k := if_pos (by omega)
      rw [e1] at K1
      have R1 : BB (wr.setCell ⟨w.heap.size, k, none⟩ (.int .u8 ((k : Nat) : Int))) (w.heap.size + 1) (MX (fun i => 17 * i) (fun _ => 0) k) := Blk.far (p := ⟨w.heap.size, k, none⟩) R (by simp) _
      have c0 := K.cell k (by omega)
      have f0 := Blk.frozen K k
      have c1 := R1.cell k (by omega)
      have f1 := Blk.frozen R1 k
      have K2 : BB _ w.heap.size _ := Blk.far (p := ⟨w.heap.size + 1, k, none⟩) K1 (by simp) (.int .u8 ((17 * k : Nat) : Int))
      have R2 := R1.set k (MX (fun i => 17 * i) (fun _ => 0) (k + 1)) (fun i hi => by unfold MX; by_cases hik : i < k <;> simp [hik] <;> omega)
      have e2 : MX (fun i => 17 * i) (fun _ => 0) (k + 1) k = 17 * k := if_pos (by omega)
      rw [e2] at R2
      have B2 := (hB.setCell (p := ⟨w.heap.size, k, none⟩) (Nat.le_refl _) (.int .u8 ((k : Nat) : Int))).setCell (p := ⟨w.heap.size + 1, k, none⟩) (Nat.le_succ _) (.int .u8 ((17 * k : Nat) : Int))
      rw [show ((17 * k : Nat) : Int) = 17 * (k : Int) by omega] at K2 R2 B2
      clear e1 e2 K1
      go_wp2
      exact ⟨⟨k + 1, by omega, rfl, K2, R2, B2⟩, by simp only [intOf]; omega⟩
end Go.Proofs.Ytnkjelamadpllaa
