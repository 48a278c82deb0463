/- The document's long numbers (package of the reference): how one lies in memory; the contract of part, Num. -/
import Derived.Test.YtnglancehmdlpaaGa
import Derived.Test.YtnglancehmdlpaaLe
namespace Go.Proofs.Ytnglancehmdlpaa
open Go.RowKit

/-- A long number in memory: n parts of 16 bits from the head of block g on, no part behind them. -/
structure Sl (w : World) (g n : Nat) (f : Nat → Nat) : Prop where
  cell : ∀ i, i < n → w.cell? ⟨g, i, none⟩ = some (.int .u32 ((f i : Nat) : Int))
  lt : ∀ i, f i < 65536
  high : ∀ i, n ≤ i → f i = 0
  blk : g < w.heap.size
def SlV (g n c : Nat) : Value := .slice (some ⟨g, 0, none⟩) n c
theorem Sl.below {w w1 : World} {g n : Nat} {f : Nat → Nat} (h : Sl w g n f) (hb : Below w.heap.size w w1) : Sl w1 g n f :=
  ⟨fun i hi => (hb.cell (p := ⟨g, i, none⟩) h.blk).trans (h.cell i hi), h.lt, h.high, Nat.lt_of_lt_of_le h.blk hb.size⟩
theorem Sl.drewN {w : World} {g n : Nat} {f : Nat → Nat} (h : Sl w g n f) (k : Nat) : Sl (w.drewN k) g n f := ⟨h.cell, h.lt, h.high, h.blk⟩
theorem Sl.drew {w : World} {g n : Nat} {f : Nat → Nat} (h : Sl w g n f) : Sl w.drew g n f := ⟨h.cell, h.lt, h.high, h.blk⟩
theorem Sl.of_blk {w : World} {g n : Nat} {t : TypeId} {f : Nat → Nat} (h : Blk w g t (Iv .u32 ((List.range n).map fun i => ((f i : Nat) : Int)))) (hf : ∀ i, f i < 65536) (hh : ∀ i, n ≤ i → f i = 0) : Sl w g n f :=
  ⟨fun i hi => by rw [h.cell, Iv_get _ _ _ (by simpa using hi)]; simp [hi], hf, hh, h.lt⟩
/-- The number of the first k parts. -/
def lv (f : Nat → Nat) : Nat → Nat
  | 0 => 0
  | k + 1 => lv f k + f k * 65536 ^ k
theorem lv_lt (f : Nat → Nat) (hf : ∀ i, f i < 65536) : ∀ k, lv f k < 65536 ^ k
  | 0 => by simp [lv]
  | k + 1 => by
    have ih := lv_lt f hf k
    have h := hf k
    have h2 : f k * 65536 ^ k ≤ 65535 * 65536 ^ k := Nat.mul_le_mul_right _ (by omega)
    have h3 : (65536 : Nat) ^ (k + 1) = 65536 * 65536 ^ k := by rw [Nat.pow_succ, Nat.mul_comm]
    simp only [lv]
    omega
theorem lv_high (f : Nat → Nat) (n : Nat) (hh : ∀ i, n ≤ i → f i = 0) : ∀ k, n ≤ k → lv f k = lv f n
  | 0, h => by rw [Nat.le_zero.1 h]
  | k + 1, h => by
    by_cases hk : n ≤ k
    · simp only [lv]
      rw [hh k hk, Nat.zero_mul, Nat.add_zero, lv_high f n hh k hk]
    · rw [show n = k + 1 by omega]

set_option maxHeartbeats 1000000 in
theorem part_any (g n c : Nat) (f : Nat → Nat) (i : Nat) (w : World) (h : Sl w g n f) :
    Calls Try.prog 27 #[SlV g n c, .int .i64 i] w fun e w' => e = .returned (.int .u32 ((f i : Nat) : Int)) ∧ w = w' := by
  unfold SlV
  by_cases hlt : i < n
  · have hc := h.cell i hlt
    go_enter Try.func27, Try.ntmps27
    go_wp2
    go_ret
    exact ⟨rfl, rfl⟩
  · have h0 := h.high i (by omega)
    rw [h0]
    go_enter Try.func27, Try.ntmps27
    go_wp2
    go_ret
    exact ⟨rfl, rfl⟩

/-- The parts of a number of two parts. -/
def numF (x i : Nat) : Nat := if i = 0 then x % 65536 else if i = 1 then x / 65536 else 0
theorem and16 (x : Int) (h0 : 0 ≤ x) (h1 : x < 4294967296) : bits .and .u32 x 65535 = x % 65536 := by
  obtain ⟨n, rfl⟩ := Int.eq_ofNat_of_zero_le h0
  have h := u32_and_nat n 65535 (by omega) (by omega)
  have e : n &&& 65535 = n % 65536 := Nat.and_two_pow_sub_one_eq_mod n 16
  rw [e] at h
  exact h
theorem numF_num (x : Nat) (_hx : x < 4294967296) : lv (numF x) 2 = x := by simp [lv, numF]; omega
/-- A call hands back a new long number, and leaves what was there as it was. -/
def RetSl (w : World) (n : Nat) (f : Nat → Nat) (e : Ending) (w' : World) : Prop := ∃ g c, e = .returned (SlV g n c) ∧ Sl w' g n f ∧ w.heap.size ≤ g ∧ Below w.heap.size w w'
set_option maxHeartbeats 1000000 in
theorem num_any (x : Nat) (w : World) (hx : x < 4294967296) : Calls Try.prog 17 #[.int .u32 x] w (RetSl w 2 (numF x)) := by
  go_enter Try.func17, Try.ntmps17
  go_wp2
  rw [and16 _ (by omega) (by omega)]
  go_ret
  refine ⟨w.heap.size, 2, rfl, Sl.of_blk (t := 37) ?_ (fun i => ?_) (fun i hi => ?_), Nat.le_refl _, (Below.refl _ _).alloc (Nat.le_refl _) _⟩
  · have e : Iv .u32 ((List.range 2).map fun i => ((numF x i : Nat) : Int)) = #[.int .u32 ((x : Int) % 65536), .int .u32 ((x : Int) / 65536)] := by simp [Iv, numF, List.range, List.range.loop]
    rw [e]
    exact Blk.new w _ _
  · unfold numF; split <;> (try split) <;> omega
  · unfold numF; rw [if_neg (by omega), if_neg (by omega)]
end Go.Proofs.Ytnglancehmdlpaa
