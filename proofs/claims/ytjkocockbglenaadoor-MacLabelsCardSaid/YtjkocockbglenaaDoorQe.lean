/- The reference's sum: bits of words kept in 64; rows of words by a function. -/
import Derived.Test.YtjkocockbglenaaDoorQd
namespace Go.Proofs.YtjkocockbglenaaDoor
open Go.RowKit

theorem testBit_u32 (i : Nat) : (4294967295 : Nat).testBit i = decide (i < 32) := Nat.testBit_two_pow_sub_one 32 i
theorem testBit_u64 (i : Nat) : (18446744073709551615 : Nat).testBit i = decide (i < 64) := Nat.testBit_two_pow_sub_one 64 i
theorem testBit_high (x : Nat) (hx : x < 4294967296) (i : Nat) (hi : 32 ≤ i) : x.testBit i = false :=
  Nat.testBit_lt_two_pow (Nat.lt_of_lt_of_le hx (show 2 ^ 32 ≤ 2 ^ i from Nat.pow_le_pow_right (by decide) hi))
theorem not_and (e g : Nat) (hg : g < 4294967296) : (18446744073709551615 ^^^ e) &&& g = (4294967295 ^^^ e) &&& g := by
  apply Nat.eq_of_testBit_eq
  intro i
  simp only [Nat.testBit_and, Nat.testBit_xor, testBit_u32, testBit_u64]
  by_cases hi : i < 32
  · simp [hi, show i < 64 by omega]
  · simp [testBit_high g hg i (by omega)]
theorem or_ei (e f g : Nat) (hg : g < 4294967296) (hf : f < 4294967296) : (e &&& f) ||| ((18446744073709551615 ^^^ e) &&& g) = ei e f g := by
  rw [not_and e g hg]
  unfold ei
  apply Nat.eq_of_testBit_eq
  intro i
  simp only [Nat.testBit_and, Nat.testBit_xor, Nat.testBit_or, testBit_u32]
  by_cases hi : i < 32
  · simp only [hi, decide_true]
    cases e.testBit i <;> cases f.testBit i <;> cases g.testBit i <;> rfl
  · rw [testBit_high g hg i (by omega), testBit_high f hf i (by omega)]
    simp
theorem or_ma (a b c : Nat) : (a &&& b) ||| (a &&& c) ||| (b &&& c) = ma a b c := by
  unfold ma
  apply Nat.eq_of_testBit_eq
  intro i
  simp only [Nat.testBit_and, Nat.testBit_xor, Nat.testBit_or]
  cases a.testBit i <;> cases b.testBit i <;> cases c.testBit i <;> rfl
/-- The words F 0, .., F (n - 1) in block g. -/
def RF (w : World) (g n : Nat) (F : Nat → Nat) : Prop := RQ w g ((List.range n).map F)
theorem RF.cell {w : World} {g n : Nat} {F : Nat → Nat} (h : RF w g n F) (i : Nat) (hi : i < n) : w.cell? ⟨g, i, none⟩ = some (.int .u64 ((F i : Nat) : Int)) := by
  have := RQ.cell h i (by simp; exact hi)
  simpa using this
theorem RF.set {w : World} {g n : Nat} {F : Nat → Nat} (h : RF w g n F) (k : Nat) (G : Nat → Nat) (hk : k < n) (ho : ∀ i, i ≠ k → G i = F i) : RF (w.setCell ⟨g, k, none⟩ (.int .u64 ((G k : Nat) : Int))) g n G := by
  have := RQ.set h k (G k) (by simp; exact hk)
  unfold RF
  have e : ((List.range n).map F).set k (G k) = (List.range n).map G := by
    apply List.ext_getElem (by simp)
    intro i h1 h2
    simp only [List.getElem_set, List.getElem_map, List.getElem_range]
    by_cases hj : k = i
    · rw [if_pos hj, hj]
    · rw [if_neg hj, ho i (fun e => hj e.symm)]
  rw [e] at this
  exact this
theorem RF.congr {w : World} {g n : Nat} {F G : Nat → Nat} (h : RF w g n F) (e : ∀ i, i < n → F i = G i) : RF w g n G := by
  unfold RF at h ⊢
  rwa [List.map_congr_left fun i hi => e i (List.mem_range.1 hi)] at h
theorem wrapq (x : Nat) (hx : x < 18446744073709551616) : IntKind.u64.wrap (x : Int) = (x : Int) := by rw [IntKind.wrap_u64]; omega
theorem or_byte64 (v b : Nat) (hv : v < 16777216) (hb : b < 256) : bits .or .u64 ((v : Int) * 256) (b : Int) = ((v * 256 + b : Nat) : Int) := by
  rw [or64 8 _ _ (by omega) (by omega) (by omega) (by omega) (by omega) (by decide)]
  omega
/-- The reference's words behind the block's bytes. -/
theorem part_upto (b : Nat → Nat) (j : Nat) : part b 64 j = if j < 16 then wd b j else 0 := by
  by_cases h : j < 16
  · rw [if_pos h, part_full b j h, wd_low b j h]
  · rw [if_neg h]
    unfold part
    rw [show min 4 (64 - 4 * j) = 0 by omega]
    rfl
def uptoF (b : Nat → Nat) (k i : Nat) : Nat := if i < k then wd b i else 0
end Go.Proofs.YtjkocockbglenaaDoor
