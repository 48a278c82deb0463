/- The contract of the reference's Sum. -/
import Derived.Test.YtjaomgildhiddaaDoorRc
namespace Go.Proofs.YtjaomgildhiddaaDoor
open Go.RowKit

theorem val_int {k : IntKind} {a b : Int} (h : a = b) : Value.int k a = .int k b := by rw [h]
/-- The memory of Sum behind k rounds. -/
structure SumW (na nb ga gb N : Nat) (fa fb : Nat → Nat) (w wr : World) (k : Nat) : Prop where
  a : Sl wr ga na fa
  b : Sl wr gb nb fb
  out : Blk wr w.heap.size 30 (Iv .u32 (fill (N + 1) (fun i => ((sumF (N + 1) fa fb i : Nat) : Int)) k))
  k : Below w.heap.size w wr
  la : ga < w.heap.size
  lb : gb < w.heap.size
theorem SumW.step {na nb ga gb N : Nat} {fa fb : Nat → Nat} {w wr : World} {k : Nat} (h : SumW na nb ga gb N fa fb w wr k) (hk : k < N + 1) :
    SumW na nb ga gb N fa fb w (wr.setCell ⟨w.heap.size, k, none⟩ (.int .u32 ((((cry fa fb k : Nat) : Int) + ((fa k : Nat) : Int) + ((fb k : Nat) : Int)) % 65536))) (k + 1) := by
  have hla := h.la; have hlb := h.lb
  refine ⟨h.a.far (by simp; omega) _, h.b.far (by simp; omega) _, ?_, h.k.setCell (by simp) _, h.la, h.lb⟩
  have e : (((cry fa fb k : Nat) : Int) + ((fa k : Nat) : Int) + ((fb k : Nat) : Int)) % 65536 = ((sumF (N + 1) fa fb k : Nat) : Int) := by
    simp only [sumF, if_pos hk]
    omega
  rw [e]
  have := h.out.set k (.int .u32 ((sumF (N + 1) fa fb k : Nat) : Int))
  rw [Iv_set, fill_set (N + 1) (fun i => ((sumF (N + 1) fa fb i : Nat) : Int)) k] at this
  exact this

def maxN (a b : Nat) : Nat := if a < b then b else a
set_option maxHeartbeats 2000000 in
set_option maxRecDepth 100000 in
theorem sum_any (ga na ca gb nb cb : Nat) (fa fb : Nat → Nat) (w : World) (ha : Sl w ga na fa) (hb : Sl w gb nb fb) (hna : na < 4294967296) (hnb : nb < 4294967296) :
    Calls Tryd.prog 10 #[SlV ga na ca, SlV gb nb cb] w (RetSl w (maxN na nb + 1) (sumF (maxN na nb + 1) fa fb)) := by
  by_cases hmax : na < nb
  · rw [show maxN na nb = nb by unfold maxN; rw [if_pos hmax]]
    have hmk := make32 (nb + 1) (by omega) (fun i => ((sumF (nb + 1) fa fb i : Nat) : Int))
    rw [show ((nb + 1 : Nat) : Int) = (nb : Int) + 1 by omega] at hmk
    unfold SlV
    go_enter Tryd.func10, Tryd.ntmps10
    go_wp2
    generalize hW : World.alloc w _ = W
    have F0 : SumW na nb ga gb nb fa fb w W 0 := by
      subst hW
      exact ⟨ha.below ((Below.refl _ _).alloc (Nat.le_refl _) _), hb.below ((Below.refl _ _).alloc (Nat.le_refl _) _), Blk.new _ _ _, (Below.refl _ _).alloc (Nat.le_refl _) _, ha.blk, hb.blk⟩
    clear hW hmk
    go_loopw [7, 8] (fun c i wr => ∃ k : Nat, k ≤ nb + 1 ∧ i = .int .i64 k ∧ c = .int .u32 ((cry fa fb k : Nat) : Int) ∧ SumW na nb ga gb nb fa fb w wr k) (fun _ i _ => nb + 1 - (intOf i).toNat)
    case atStart => exact ⟨0, by omega, rfl, rfl, F0⟩
    case round =>
      obtain ⟨k, hk, rfl, rfl, F⟩ := hrel
      clear F0
      by_cases hlt : k < nb + 1
      · have PA := fun W (h : Sl W ga na fa) => part_any ga na ca fa k W h
        have PB := fun W (h : Sl W gb nb fb) => part_any gb nb cb fb k W h
        have l1 := ha.lt k
        have l2 := hb.lt k
        have l3 := cry_le fa fb ha.lt hb.lt k
        have c1 : wr.cell? ⟨w.heap.size, k, none⟩ = some (.int .u32 0) := by
          rw [F.out.cell, Iv_get _ _ _ (by rw [fill_length]; omega), fill_getD _ _ _ _ hlt, if_neg (by omega)]
        have f1 := F.out.frozen k
        go_wp2_with fail
        refine (PA _ F.a).mono ?_
        rintro e w' ⟨rfl, rfl⟩
        go_wp2_with fail
        refine (PB _ F.b).mono ?_
        rintro e w' ⟨rfl, rfl⟩
        go_wp2
        rw [and16 _ (by omega) (by omega)]
        exact ⟨⟨k + 1, by omega, by go_num, val_int (by simp only [cry]; omega), by exact F.step hlt⟩, by simp [intOf]; omega⟩
      · obtain rfl : k = nb + 1 := by omega
        have HO := F.out
        rw [fill_full] at HO
        have HB := F.k
        clear F
        go_wp2
        go_ret
        exact ⟨w.heap.size, _, rfl, Sl.of_blk HO (fun i => by unfold sumF; split <;> omega) (fun i hi => by unfold sumF; rw [if_neg (by omega)]), Nat.le_refl _, HB⟩
  · rw [show maxN na nb = na by unfold maxN; rw [if_neg hmax]]
    have hmk := make32 (na + 1) (by omega) (fun i => ((sumF (na + 1) fa fb i : Nat) : Int))
    rw [show ((na + 1 : Nat) : Int) = (na : Int) + 1 by omega] at hmk
    unfold SlV
    go_enter Tryd.func10, Tryd.ntmps10
    go_wp2
    generalize hW : World.alloc w _ = W
    have F0 : SumW na nb ga gb na fa fb w W 0 := by
      subst hW
      exact ⟨ha.below ((Below.refl _ _).alloc (Nat.le_refl _) _), hb.below ((Below.refl _ _).alloc (Nat.le_refl _) _), Blk.new _ _ _, (Below.refl _ _).alloc (Nat.le_refl _) _, ha.blk, hb.blk⟩
    clear hW hmk
    go_loopw [7, 8] (fun c i wr => ∃ k : Nat, k ≤ na + 1 ∧ i = .int .i64 k ∧ c = .int .u32 ((cry fa fb k : Nat) : Int) ∧ SumW na nb ga gb na fa fb w wr k) (fun _ i _ => na + 1 - (intOf i).toNat)
    case atStart => exact ⟨0, by omega, rfl, rfl, F0⟩
    case round =>
      obtain ⟨k, hk, rfl, rfl, F⟩ := hrel
      clear F0
      by_cases hlt : k < na + 1
      · have PA := fun W (h : Sl W ga na fa) => part_any ga na ca fa k W h
        have PB := fun W (h : Sl W gb nb fb) => part_any gb nb cb fb k W h
        have l1 := ha.lt k
        have l2 := hb.lt k
        have l3 := cry_le fa fb ha.lt hb.lt k
        have c1 : wr.cell? ⟨w.heap.size, k, none⟩ = some (.int .u32 0) := by
          rw [F.out.cell, Iv_get _ _ _ (by rw [fill_length]; omega), fill_getD _ _ _ _ hlt, if_neg (by omega)]
        have f1 := F.out.frozen k
        go_wp2_with fail
        refine (PA _ F.a).mono ?_
        rintro e w' ⟨rfl, rfl⟩
        go_wp2_with fail
        refine (PB _ F.b).mono ?_
        rintro e w' ⟨rfl, rfl⟩
        go_wp2
        rw [and16 _ (by omega) (by omega)]
        exact ⟨⟨k + 1, by omega, by go_num, val_int (by simp only [cry]; omega), by exact F.step hlt⟩, by simp [intOf]; omega⟩
      · obtain rfl : k = na + 1 := by omega
        have HO := F.out
        rw [fill_full] at HO
        have HB := F.k
        clear F
        go_wp2
        go_ret
        exact ⟨w.heap.size, _, rfl, Sl.of_blk HO (fun i => by unfold sumF; split <;> omega) (fun i hi => by unfold sumF; rw [if_neg (by omega)]), Nat.le_refl _, HB⟩
theorem sum_val (fa fb : Nat → Nat) (na nb : Nat) (hfa : ∀ i, fa i < 65536) (hfb : ∀ i, fb i < 65536) (ha : ∀ i, na ≤ i → fa i = 0) (hb : ∀ i, nb ≤ i → fb i = 0) :
    lv (sumF (maxN na nb + 1) fa fb) (maxN na nb + 1) = lv fa na + lv fb nb := by
  have hA : na ≤ maxN na nb := by unfold maxN; split <;> omega
  have hB : nb ≤ maxN na nb := by unfold maxN; split <;> omega
  have h := sum_num fa fb (maxN na nb + 1) (maxN na nb + 1) (Nat.le_refl _)
  have hc : cry fa fb (maxN na nb + 1) = 0 := by
    have := cry_le fa fb hfa hfb (maxN na nb)
    unfold cry
    rw [ha _ hA, hb _ hB]
    omega
  rw [hc, Nat.zero_mul, Nat.add_zero, lv_high fa na ha _ (by omega), lv_high fb nb hb _ (by omega)] at h
  exact h
theorem sub_val (fa fb : Nat → Nat) (na nb : Nat) (hfa : ∀ i, fa i < 65536) (hfb : ∀ i, fb i < 65536) (hb : ∀ i, nb ≤ i → fb i = 0) (hn : nb ≤ na) (hle : lv fb nb ≤ lv fa na) :
    lv (subF na fa fb) na = lv fa na - lv fb nb := by
  have h := sub_num fa fb hfa hfb na na (Nat.le_refl _)
  rw [lv_high fb nb hb na hn] at h
  have h1 := lv_lt (subF na fa fb) (fun i => by unfold subF; split <;> omega) na
  have h2 := brw_le fa fb na
  rcases Nat.lt_or_ge 0 (brw fa fb na) with h3 | h3
  · have : brw fa fb na = 1 := by omega
    rw [this, Nat.one_mul] at h
    omega
  · have : brw fa fb na = 0 := by omega
    rw [this, Nat.zero_mul] at h
    omega

end Go.Proofs.YtjaomgildhiddaaDoor
