/- The document's long numbers (package of the reference): how one lies in memory; the contract of part, Num. -/
import Derived.Test.YtgdhlafggdaipaaFm
import Derived.Test.YtgdhlafggdaipaaLe
namespace Go.Proofs.Ytgdhlafggdaipaa
open Go.RowKit

/-- A long number in memory: n parts of 16 bits from the head of block g on, no part behind them. -/
structure Sl (w : World) (g n : Nat) (f : Nat → Nat) : Prop where
  cell : ∀ i, i < n → w.cell? ⟨g, i, none⟩ = some (.int .u32 ((f i : Nat) : Int))
  lt : ∀ i, f i < 65536
  high : ∀ i, n ≤ i → f i = 0
  blk : g < w.heap.size
def SlV (g n c : Nat) : Value := .slice (some ⟨g, 0, none⟩) n c
theorem Sl.below {w w1 : World} {g n : Nat} {f : Nat → Nat} (h : Sl w g n f) (hb : Below w.heap.size w w1) : Sl w1 g n f :=
  ⟨fun i hi => (hb.cell (p := ⟨g, i, none⟩) h.blk).trans (h.cell i hi), h.lt, h.high, Nat.lt_of_lt_of_le h.blk hb.size⟩
theorem Sl.drewN {w : World} {g n : Nat} {f : Nat → Nat} (h : Sl w g n f) (k : Nat) : Sl (w.drewN k) g n f := ⟨h.cell, h.lt, h.high, h.blk⟩
theorem Sl.drew {w : World} {g n : Nat} {f : Nat → Nat} (h : Sl w g n f) : Sl w.drew g n f := ⟨h.cell, h.lt, h.high, h.blk⟩
theorem Sl.of_blk {w : World} {g n : Nat} {t : TypeId} {f : Nat → Nat} (h : Blk w g t (Iv .u32 ((List.range n).map fun i => ((f i : Nat) : Int)))) (hf : ∀ i, f i < 65536) (hh : ∀ i, n ≤ i → f i = 0) : Sl w g n f :=
  ⟨fun i hi => by rw [h.cell, Iv_get _ _ _ (by simpa using hi)]; simp [hi], hf, hh, h.lt⟩
/-- The number of the first k parts. -/
def lv (f : Nat → Nat) : Nat → Nat
  | 0 => 0
  | k + 1 => lv f k + f k * 65536 ^ k
theorem lv_lt (f : Nat → Nat) (hf : ∀ i, f i < 65536) : ∀ k, lv f k < 65536 ^ k
  | 0 => by simp [lv]
  | k + 1 => by
    have ih := lv_lt f hf k
    have h := hf k
    have h2 : f k * 65536 ^ k ≤ 65535 * 65536 ^ k := Nat.mul_le_mul_right _ (by omega)
    have h3 : (65536 : Nat) ^ (k + 1) = 65536 * 65536 ^ k := by rw [Nat.pow_succ, Nat.mul_comm]
    simp only [lv]
    omega
theorem lv_high (f : Nat → Nat) (n : Nat) (hh : ∀ i, n ≤ i → f i = 0) : ∀ k, n ≤ k → lv f k = lv f n
  | 0, h => by rw [Nat.le_zero.1 h]
  | k + 1, h => by
    by_cases hk : n ≤ k
    · simp only [lv]
      rw [hh k hk, Nat.zero_mul, Nat.add_zero, lv_high f n hh k hk]
    · rw [show n = k + 1 by omega]

set_option maxHeartbeats 1000000 in
theorem part_any (g n c : Nat) (f : Nat → Nat) (i : Nat) (w : World) (h : Sl w g n f) :
    Calls Try.prog 32 #[SlV g n c, .int .i64 i] w fun e w' => e = .returned (.int .u32 ((f i : Nat) : Int)) ∧ w = w' := by
  unfold SlV
  by_cases hlt : i < n
  · have hc := h.cell i hlt
    go_enter Try.func32, Try.ntmps32
    go_wp2
    go_ret
    exact ⟨rfl, rfl⟩
  · have h0 := h.high i (by omega)
    rw [h0]
    go_enter Try.func32, Try.ntmps32
    go_wp2
    go_ret
    exact ⟨rfl, rfl⟩

/-- The parts of a number of two parts. -/
def numF (x i : Nat) : Nat := if i = 0 then x % 65536 else if i = 1 then x / 65536 else 0
theorem and16 (x : Int) (h0 : 0 ≤ x) (h1 : x < 4294967296) : bits .and .u32 x 65535 = x % 65536 := by
  obtain ⟨n, rfl⟩ := Int.eq_ofNat_of_zero_le h0
  have h := u32_and_nat n 65535 (by omega) (by omega)
  have e : n &&& 65535 = n % 65536 := Nat.and_two_pow_sub_one_eq_mod n 16
  rw [e] at h
  exact h
theorem numF_num (x : Nat) (_hx : x < 4294967296) : lv (numF x) 2 = x := by simp [lv, numF]; omega
/-- A call hands back a new long number, and leaves what was there as it was. -/
def RetSl (w : World) (n : Nat) (f : Nat → Nat) (e : Ending) (w' : World) : Prop := ∃ g c, e = .returned (SlV g n c) ∧ Sl w' g n f ∧ w.heap.size ≤ g ∧ Below w.heap.size w w'
set_option maxHeartbeats 1000000 in
theorem num_any (x : Nat) (w : World) (hx : x < 4294967296) : Calls Try.prog 15 #[.int .u32 x] w (RetSl w 2 (numF x)) := by
  go_enter Try.func15, Try.ntmps15
  go_wp2
  rw [and16 _ (by omega) (by omega)]
  go_ret
  refine ⟨w.heap.size, 2, rfl, Sl.of_blk (t := 35) ?_ (fun i => ?_) (fun i hi => ?_), Nat.le_refl _, (Below.refl _ _).alloc (Nat.le_refl _) _⟩
  · have e : Iv .u32 ((List.range 2).map fun i => ((numF x i : Nat) : Int)) = #[.int .u32 ((x : Int) % 65536), .int .u32 ((x : Int) / 65536)] := by simp [Iv, numF, List.range, List.range.loop]
    rw [e]
    exact Blk.new w _ _
  · unfold numF; split <;> (try split) <;> omega
  · unfold numF; rw [if_neg (by omega), if_neg (by omega)]

/-- The parts of 2^255 - 19. -/
def pF (i : Nat) : Nat := if i = 0 then 65517 else if i < 15 then 65535 else if i = 15 then 32767 else 0
theorem pF_num : lv pF 16 = pp := by decide +kernel
theorem pF_lt (i : Nat) : pF i < 65536 := by unfold pF; split <;> (try split) <;> (try split) <;> omega
theorem pF_high (i : Nat) (h : 16 ≤ i) : pF i = 0 := by unfold pF; rw [if_neg (by omega), if_neg (by omega), if_neg (by omega)]
theorem p_list : ((fill 16 (fun _ => 65535) 16).set 0 65517).set 15 32767 = (List.range 16).map fun i => ((pF i : Nat) : Int) := by
  simp [fill, List.range, List.range.loop, pF]
structure PW (w wr : World) (k : Nat) : Prop where
  key : Blk wr w.heap.size 35 (Iv .u32 (fill 16 (fun _ => 65535) k))
  b : Below w.heap.size w wr
theorem PW.step {w wr : World} {k : Nat} (h : PW w wr k) : PW w (wr.setCell ⟨w.heap.size, k, none⟩ (.int .u32 65535)) (k + 1) := by
  refine ⟨?_, h.b.setCell (by simp) _⟩
  have := h.key.set k (.int .u32 65535)
  rw [Iv_set, fill_set 16 (fun _ => 65535) k] at this
  exact this
set_option maxHeartbeats 1000000 in
theorem p_any (w : World) : Calls Try.prog 17 #[] w (RetSl w 16 pF) := by
  have hmk : ∀ w, (Instr.makeSlice 33 (.int .i64 16) (.int .i64 16)).run Try.prog w = .ok (.slice (some ⟨w.heap.size, 0, none⟩) 16 16) (w.alloc (.cells (Iv .u32 (fill 16 (fun _ => 65535) 0)) 35)) := fun _ => by kernel_rfl
  go_enter Try.func17, Try.ntmps17
  go_wp2
  generalize hW : World.alloc w _ = W
  have F0 : PW w W 0 := by
    subst hW
    exact ⟨Blk.new _ _ _, (Below.refl _ _).alloc (Nat.le_refl _) _⟩
  clear hW hmk
  go_loopw [2] (fun i wr => ∃ k : Nat, k ≤ 16 ∧ i = .int .i64 k ∧ PW w wr k) (fun i _ => 16 - (intOf i).toNat)
  case atStart => exact ⟨0, by omega, rfl, F0⟩
  case round =>
    obtain ⟨k, hk, rfl, F⟩ := hrel
    clear F0
    by_cases hlt : k < 16
    · have c5 : wr.cell? ⟨w.heap.size, k, none⟩ = some (.int .u32 0) := by
        rw [F.key.cell, Iv_get _ _ _ (by rw [fill_length]; omega), fill_getD _ _ _ _ hlt, if_neg (by omega)]
      have f5 := F.key.frozen k
      go_wp2
      exact ⟨⟨k + 1, by omega, by go_num, F.step⟩, by simp [intOf]; omega⟩
    · obtain rfl : k = 16 := by omega
      obtain ⟨HK, HB⟩ := F
      have c0 : wr.cell? ⟨w.heap.size, 0, none⟩ = some (.int .u32 65535) := HK.cell 0
      have c15 : wr.cell? ⟨w.heap.size, 15, none⟩ = some (.int .u32 65535) := HK.cell 15
      have f0 := HK.frozen 0
      have f15 := HK.frozen 15
      have HK2 := (HK.set 0 (.int .u32 65517)).set 15 (.int .u32 32767)
      rw [Iv_set, Iv_set, p_list] at HK2
      have HB2 := (HB.setCell (p := ⟨w.heap.size, 0, none⟩) (by simp) (.int .u32 65517)).setCell (p := ⟨w.heap.size, 15, none⟩) (by simp) (.int .u32 32767)
      clear HK HB
      go_wp2
      go_ret
      exact ⟨w.heap.size, 16, rfl, Sl.of_blk HK2 pF_lt pF_high, Nat.le_refl _, HB2⟩

end Go.Proofs.Ytgdhlafggdaipaa
