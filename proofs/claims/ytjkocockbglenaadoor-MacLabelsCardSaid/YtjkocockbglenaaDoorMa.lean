/- mac: the contract of joined. -/
import Derived.Test.YtjkocockbglenaaDoorBa
namespace Go.Proofs.YtjkocockbglenaaDoor
open Go.RowKit

theorem xor8 (a b : Nat) (ha : a < 256) (hb : b < 256) : bits .xor .u8 (a : Int) (b : Int) = ((a ^^^ b : Nat) : Int) := u8_xor_nat a b ha hb
/-- What the 64 bytes are behind k rounds. -/
def xorK (c : Nat) (l : List Nat) (k : Nat) : List Nat := xorL c (l.take k) ++ l.drop k
theorem xorK_length (c : Nat) (l : List Nat) (k : Nat) : (xorK c l k).length = l.length := by simp [xorK, xorL]; omega
theorem xorK_zero (c : Nat) (l : List Nat) : xorK c l 0 = l := by simp [xorK, xorL]
theorem xorK_full (c : Nat) (l : List Nat) (k : Nat) (h : l.length ≤ k) : xorK c l k = xorL c l := by simp [xorK, xorL, List.take_of_length_le h, List.drop_of_length_le h]
theorem xorK_set (c : Nat) (l : List Nat) (k : Nat) (h : k < l.length) : (xorK c l k).set k (l[k] ^^^ c) = xorK c l (k + 1) := by
  unfold xorK xorL
  rw [List.set_append_right _ _ (by simp; omega)]
  rw [← List.take_append_getElem h, List.map_append, List.append_assoc]
  congr 1
  simp only [List.length_map, List.length_take]
  rw [show k - min k l.length = 0 by omega, List.drop_eq_getElem_cons h, List.set_cons_zero]
  rfl
theorem xorK_get (c : Nat) (l : List Nat) (k : Nat) (h : k < l.length) : (Iv .u8 (NI (xorK c l k)))[k]? = some (.int .u8 ((l[k] : Nat) : Int)) := by
  rw [NI_get _ _ (by rw [xorK_length]; exact h)]
  have e : (xorK c l k)[k]? = some l[k] := by
    unfold xorK
    rw [List.getElem?_append_right (by simp [xorL]; omega), List.getElem?_drop]
    simp [xorL, show k + (k - min k l.length) = k by omega]
  rw [List.getElem?_eq_getElem (by rw [xorK_length]; exact h)] at e
  rw [Option.some.inj e]
theorem info_64 (l : List Int) (h : l.length = 64) : (Tryd.prog.info? 43).map (·.size) = some (Iv .u8 l).size := by
  rw [Iv_size, h]
  kernel_rfl
theorem NI_set (l : List Nat) (k v : Nat) : (NI l).set k ((v : Nat) : Int) = NI (l.set k v) := by simp [NI, List.map_set]
structure JoW (c : Nat) (l : List Nat) (w wr : World) (k : Nat) : Prop where
  o : Blk wr w.heap.size 43 (Iv .u8 (NI (xorK c l k)))
  k : Below w.heap.size w wr
theorem JoW.step {c : Nat} {l : List Nat} {w wr : World} {k : Nat} (h : JoW c l w wr k) (hk : k < l.length) : JoW c l w (wr.setCell ⟨w.heap.size, k, none⟩ (.int .u8 ((l[k] ^^^ c : Nat) : Int))) (k + 1) := by
  refine ⟨?_, h.k.setCell (by simp) _⟩
  have hs := h.o.set k (.int .u8 ((l[k] ^^^ c : Nat) : Int))
  rw [Iv_set, NI_set, xorK_set _ _ _ hk] at hs
  exact hs
set_option maxHeartbeats 2000000 in
set_option maxRecDepth 100000 in
theorem joined_any (c : Nat) (l : List Nat) (w : World) (hl : l.length = 64) (hb : Bytes l) (hc : c < 256) :
    Calls Tryd.prog 20 #[.agg (Iv .u8 (NI l)), .int .u8 (c : Int)] w fun e w' => e = .returned (.slice (some ⟨w.heap.size, 0, none⟩) 64 64) ∧ BA w' w.heap.size 0 (xorL c l) ∧ Below w.heap.size w w' := by
  go_enter Tryd.func20, Tryd.ntmps20
  go_wp2_with fail
  generalize hW : World.alloc w _ = W
  have F0 : JoW c l w W 0 := by
    subst hW
    refine ⟨?_, (Below.refl _ _).alloc (Nat.le_refl _) _⟩
    rw [xorK_zero]
    exact Blk.new _ _ _
  clear hW
  go_loopw [6] (fun i wr => ∃ k : Nat, k ≤ 64 ∧ i = .int .i64 k ∧ JoW c l w wr k) (fun i _ => 64 - (intOf i).toNat)
  case atStart => exact ⟨0, by omega, rfl, F0⟩
  case round =>
    obtain ⟨k, hk, rfl, F⟩ := hrel
    clear F0
    by_cases hlt : k < 64
    · have c1 : wr.cell? ⟨w.heap.size, k, none⟩ = some (.int .u8 ((l[k] : Nat) : Int)) := by
        rw [F.o.cell, xorK_get _ _ _ (by rw [hl]; exact hlt)]
      have f1 := F.o.frozen k
      have x1 := xor8 l[k] c (hb _ (List.getElem_mem _)) hc
      have i1 : (0 : Int) ≤ (k : Int) := by omega
      have i2 : (k : Int) < 64 := by omega
      have S1 := F.step (by rw [hl]; exact hlt)
      have HX := Lib.hid x1
      have HS := Lib.hid S1
      clear F S1 x1
      go_wp2
      rw [HX.out]
      exact ⟨⟨k + 1, by omega, by go_num, HS.out⟩, by simp [intOf]; omega⟩
    · obtain rfl : k = 64 := by omega
      rw [show ((64 : Nat) : Int) = 64 from rfl]
      have FO := F.o
      have FK := F.k
      rw [xorK_full _ _ _ (by omega)] at FO
      clear F
      go_wp2
      go_ret
      exact ⟨rfl, BA.of_blk FO, FK⟩
end Go.Proofs.YtjkocockbglenaaDoor
