/- The reference's difference by value, where nothing falls below 0 (stage 2). -/
import Derived.Test.YtnglancehmdlpaaRp
namespace Go.Proofs.Ytnglancehmdlpaa
open Go.RowKit

theorem subF_lt (n : Nat) (fa fb : Nat → Nat) (i : Nat) : subF n fa fb i < 65536 := by
  unfold subF
  split
  · exact Nat.mod_lt _ (by decide)
  · decide
theorem minus_val (f f' : Nat → Nat) (n n' : Nat) (h1 : ∀ i, f i < 65536) (h1' : ∀ i, f' i < 65536) (hh' : ∀ i, n' ≤ i → f' i = 0) (hle : lv f' n' ≤ lv f n) :
    lv (subF n f f') n + lv f' n' = lv f n := by
  have s := sub_num f f' h1 h1' n n (Nat.le_refl _)
  have hlt := lv_lt f h1 n
  have z : ∀ i, n ≤ i → f' i = 0 := by
    intro i hi
    have p := lv_part_any f' h1' n' hh' i
    have q : (65536 : Nat) ^ n ≤ 65536 ^ i := Nat.pow_le_pow_right (by decide) hi
    rw [Nat.div_eq_of_lt (by omega)] at p
    exact p.symm
  have e : lv f' n = lv f' n' := by
    rcases Nat.le_total n n' with h | h
    · exact (lv_high f' n z n' h).symm
    · exact lv_high f' n' hh' n h
  have b := brw_le f f' n
  have l := lv_lt (subF n f f') (subF_lt n f f') n
  rcases Nat.eq_zero_or_pos (brw f f' n) with hb | hb
  · rw [hb, Nat.zero_mul] at s
    omega
  · have hb1 : brw f f' n = 1 := by omega
    rw [hb1, Nat.one_mul] at s
    omega
theorem minus_v (u v : Value) (U V R b c : Nat) (w : World) (hu : LongIs w u U b) (hv : LongIs w v V c) (hR : R + V = U) (hb : b ≤ 1000) : Calls Try.prog 19 #[u, v] w (RetL w R b) := by
  obtain ⟨g, n, cc, f, rfl, h1, h2, h3⟩ := hu
  obtain ⟨g', n', c', f', rfl, h1', h2', h3'⟩ := hv
  have s := minus_val f f' n n' h1.lt h1'.lt h1'.high (by omega)
  refine (retL_ofSl (V := R) (minus_any g n cc g' n' c' f f' w h1 h1' (by omega)) (by omega)).mono fun e w' h => RetL.more _ h3 h
end Go.Proofs.Ytnglancehmdlpaa
