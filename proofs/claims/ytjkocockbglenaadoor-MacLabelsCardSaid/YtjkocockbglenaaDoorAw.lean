/- The statements' first call: the example of chapter 4 is answered as it stands there. -/
import Derived.Test.YtjkocockbglenaaDoorTc
namespace Go.Proofs.YtjkocockbglenaaDoor
open Go.RowKit

structure AwW (w wr : World) (k : Nat) : Prop where
  o : Blk wr w.heap.size 5 (Iv .u8 (BL 22 fun i => if i < k then 11 else 0))
  b : Below w.heap.size w wr
theorem AwW.step {w wr : World} {k : Nat} (h : AwW w wr k) : AwW w (wr.setCell ⟨w.heap.size, k, none⟩ (.int .u8 11)) (k + 1) := by
  refine ⟨?_, h.b.setCell (by simp) _⟩
  have hs := h.o.set k (.int .u8 ((11 : Nat) : Int))
  rw [Iv_set] at hs
  have e := BL_set 22 (fun i => if i < k then 11 else 0) (fun i => if i < k + 1 then 11 else 0) k (fun i hi => by
    show (if i < k + 1 then 11 else 0) = (if i < k then 11 else 0)
    by_cases h1 : i < k
    · rw [if_pos h1, if_pos (by omega)]
    · rw [if_neg h1, if_neg (by omega)])
  rw [show (if k < k + 1 then 11 else 0) = 11 from if_pos (by omega)] at e
  rw [e] at hs
  exact hs
set_option maxHeartbeats 4000000 in
set_option maxRecDepth 100000 in
theorem awake_any (w : World) (T : Tab w cuT) (S : Sq w sqT) : Calls Tryd.prog 8 #[] w fun e w' => e = .returned (.bool true) ∧ Below w.heap.size w w' := by
  have hmk := make8 22 (by omega)
  rw [show ((22 : Nat) : Int) = 22 from rfl] at hmk
  go_enter Tryd.func8, Tryd.ntmps8
  go_wp2_with fail
  generalize hW : World.alloc w _ = W
  have F0 : AwW w W 0 := by
    subst hW
    exact ⟨Blk.new _ _ _, (Below.refl _ _).alloc (Nat.le_refl _) _⟩
  clear hW hmk
  go_loopw [7] (fun i wr => ∃ k : Nat, k ≤ 22 ∧ i = .int .i64 k ∧ AwW w wr k) (fun i _ => 22 - (intOf i).toNat)
  case atStart => exact ⟨0, by omega, rfl, F0⟩
  case round =>
    obtain ⟨k, hk, rfl, F⟩ := hrel
    clear F0
    by_cases hlt : k < 22
    · have f1 := F.o.frozen k
      have c1 : wr.cell? ⟨w.heap.size, k, none⟩ = some (.int .u8 ((0 : Nat) : Int)) := by
        rw [F.o.cell, BL_get _ _ _ hlt, if_neg (by omega)]
      have i1 : (0 : Int) ≤ (k : Int) := by omega
      have i2 : (k : Int) < 22 := by omega
      have HS := Lib.hid F.step
      clear F
      go_wp2
      exact ⟨⟨k + 1, by omega, by go_num, HS.out⟩, by simp [intOf]; omega⟩
    · obtain rfl : k = 22 := by omega
      rw [show ((22 : Nat) : Int) = 22 from rfl]
      have FB := F.b
      have A0 : BA wr w.heap.size 0 (List.replicate 22 11) := BA.of_blk (by have := F.o; rw [show BL 22 (fun i => if i < 22 then 11 else 0) = NI (List.replicate 22 11) by decide +kernel] at this; exact this)
      replace T := T.below FB
      replace S := S.below FB
      have d1 := (Below.refl wr.heap.size wr).alloc (Nat.le_refl _) (.cells (Iv .u8 (NI (List.range 13))) 5)
      have X1 : SB (wr.alloc (.cells (Iv .u8 (NI (List.range 13))) 5)) (.slice (some ⟨wr.heap.size, 0, none⟩) 13 13) (List.range 13) := SB.of_ba' (BA.of_blk (Blk.new _ _ _)) (by rw [List.length_range]) (by rw [List.length_range]; exact Nat.le_refl _)
      have X2 : SB wr (.slice (some ⟨w.heap.size, 0, none⟩) 22 22) (List.replicate 22 11) := SB.of_ba' A0 (by rw [List.length_replicate]) (by rw [List.length_replicate]; exact Nat.le_refl _)
      have CS := Lib.hid (extract_any cuT sqT _ _ _ _ _ (T.below d1) (S.below d1) X1 (X2.below d1) (fun x hx => by have := List.mem_range.1 hx; omega) (Bytes.replicate _ (by decide)) (by rw [List.length_range]; decide) (by rw [List.length_replicate]; decide))
      have hO4 := awake_num
      have lO := hmac_length cuT sqT (List.range 13) (List.replicate 22 11)
      have bO := hmac_bytes cuT sqT (List.range 13) (List.replicate 22 11)
      generalize hmac cuT sqT (List.range 13) (List.replicate 22 11) = O at hO4 lO bO CS
      have hg : ∀ (i : Nat) (h : i < O.length) (v : Nat), [7, 119, 9, 54][i]? = some v → O[i] = v := fun i h v hv => by
        have hi : i < 4 := by
          have := (List.getElem?_eq_some_iff.1 hv).1
          simpa using this
        rw [← hO4, List.getElem?_take, if_pos hi, List.getElem?_eq_getElem h] at hv
        exact Option.some.inj hv
      have HG := Lib.hid hg
      clear hO4 bO X1 X2 T S F A0 hg
      rw [show Iv .u8 (NI (List.range 13)) = #[.int .u8 0, .int .u8 1, .int .u8 2, .int .u8 3, .int .u8 4, .int .u8 5, .int .u8 6, .int .u8 7, .int .u8 8, .int .u8 9, .int .u8 10, .int .u8 11, .int .u8 12] from rfl] at CS d1
      go_upto_region 7 with fail
      go_wp2_with fail
      refine CS.out.mono ?_
      rintro _ w1 ⟨rfl, b1⟩
      have B1 := FB.trans ((d1.trans (b1.mono d1.size)).mono FB.size)
      clear CS b1 d1
      go_upto_region 8 with (refine wpList_store_row rfl 25 _ _ rfl (w1.heap.size) (Iv .u8 (NI O)) rfl rfl 25 _ (Blk.new w1 25 (Iv .u8 (List.replicate 32 0))) (info_N32 _ lO) (by rw [Iv_size, Iv_size, NI_length, lO]; rfl) (Iv_one _ _) ?_)
      change Code.wp _ _ _ _ (World.setRow (w1.alloc (.cells (Iv .u8 (List.replicate 32 0)) 25)) w1.heap.size _)
      have b2 := below_setRow ((Below.refl w1.heap.size w1).alloc (Nat.le_refl _) (.cells (Iv .u8 (List.replicate 32 0)) 25)) (Nat.le_refl w1.heap.size) (Iv .u8 (NI O))
      have A2 := BA.of_blk ((Blk.new w1 25 (Iv .u8 (List.replicate 32 0))).row (Iv .u8 (NI O)))
      have B2 := B1.trans (b2.mono B1.size)
      clear b2 B1
      generalize World.setRow _ _ _ = V at A2 B2 ⊢
      generalize w1.heap.size = G at A2 ⊢
      simp only [Act.put]
      have c0 : V.cell? ⟨G, 0, none⟩ = some (.int .u8 7) := by rw [A2.cell 0 (by omega), HG.out 0 (by omega) 7 rfl]; rfl
      have c1 : V.cell? ⟨G, 1, none⟩ = some (.int .u8 119) := by have := A2.cell 1 (by omega); rw [HG.out 1 (by omega) 119 rfl] at this; exact this
      have c2 : V.cell? ⟨G, 2, none⟩ = some (.int .u8 9) := by have := A2.cell 2 (by omega); rw [HG.out 2 (by omega) 9 rfl] at this; exact this
      have c3 : V.cell? ⟨G, 3, none⟩ = some (.int .u8 54) := by have := A2.cell 3 (by omega); rw [HG.out 3 (by omega) 54 rfl] at this; exact this
      clear HG A2
      go_wp2
      go_ret
      exact ⟨rfl, B2⟩
end Go.Proofs.YtjkocockbglenaaDoor
