/- The program's place, Has, Next. -/
import Derived.Test.YtnahjmladhbmpaaSc
namespace Go.Proofs.Ytnahjmladhbmpaa
open Go.RowKit

set_option maxHeartbeats 4000000 in
set_option maxRecDepth 100000 in
theorem place_c (g n fl : Nat) (l : List (Nat × Nat)) (hl : l.length ≤ 32) (W : World) (h : SM W g l fl) :
    Calls Try.prog 18 #[.pointer (some ⟨g, 0, none⟩), .int .u64 (n : Int)] W fun e w' => e = .returned (.int .i64 (placeS l n : Int)) ∧ Below W.heap.size W w' := by
  have hg := h.lt
  have HP := Lib.hid (placeS_is l n)
  have HL := Lib.hid (placeS_le l n)
  go_enter Try.func18, Try.ntmps18
  go_upto_region 2 with fail
  go_loopw [5] (fun t wr => ∃ i : Nat, i ≤ l.length ∧ (∀ j, j < i → n < (l.getD j (0, 0)).1) ∧ t = .int .i64 (i : Int) ∧ Below W.heap.size W wr) (fun t _ => (l.length - intOf t).toNat)
  case atStart => exact ⟨0, by omega, fun j hj => absurd hj (Nat.not_lt_zero _), rfl, Below.refl _ _⟩
  case round =>
    obtain ⟨i, hi, ha, rfl, hB⟩ := hrel
    have hn := (h.below hB hg).num
    by_cases hin : i = l.length
    · have e := HP.out i hi ha (fun h1 => absurd h1 (by omega))
      subst hin
      go_wp2
      go_ret
      exact ⟨by rw [e]; rfl, hB⟩
    · have il : i < l.length := by omega
      have hlo := (h.below hB hg).lo i il
      have i1 : (i : Int) < (l.length : Int) := by omega
      have i0 : (0 : Int) ≤ (i : Int) := by omega
      have i2 : (i : Int) < 32 := by omega
      by_cases hc : n < (l.getD i (0, 0)).1
      · have hx : (n : Int) < (((l.getD i (0, 0)).1 : Nat) : Int) := by omega
        replace ha : ∀ j, j < i + 1 → n < (l.getD j (0, 0)).1 := fun j hj => by
          rcases Nat.lt_or_ge j i with h1 | h1
          · exact ha j h1
          · have : j = i := by omega
            rw [this]; exact hc
        have HA := Lib.hid ha
        clear ha
        generalize (l.getD i (0, 0)).1 = x at *
        go_wp2
        exact ⟨⟨i + 1, by omega, HA.out, rfl, hB⟩, by simp only [intOf]; omega⟩
      · have e := HP.out i hi ha (fun _ => by omega)
        have hx : ¬ (n : Int) < (((l.getD i (0, 0)).1 : Nat) : Int) := by omega
        generalize (l.getD i (0, 0)).1 = x at *
        clear ha
        have E := Lib.hid e
        clear e
        go_wp2
        go_ret
        exact ⟨by rw [E.out]; rfl, hB⟩
set_option maxHeartbeats 4000000 in
set_option maxRecDepth 100000 in
theorem has_c (g n fl : Nat) (l : List (Nat × Nat)) (hl : l.length ≤ 32) (W : World) (h : SM W g l fl) :
    Calls Try.prog 12 #[.pointer (some ⟨g, 0, none⟩), .int .u64 (n : Int)] W fun e w' => e = .returned (.bool (hasS l fl n)) ∧ Below W.heap.size W w' := by
  have hg := h.lt
  have C := place_c g n fl l hl W h
  have HL := placeS_le l n
  have HS : hasS l fl n = (decide (n < fl) || (decide (placeS l n < l.length) && decide (n ≤ (l.getD (placeS l n) (0, 0)).2))) := rfl
  generalize placeS l n = k at *
  go_enter Try.func12, Try.ntmps12
  go_wp2_with fail
  refine C.mono ?_
  rintro e w1 ⟨rfl, hB⟩
  have hn := (h.below hB hg).num
  have hf := (h.below hB hg).flo
  by_cases h1 : n < fl
  · have x1 : (n : Int) < (fl : Int) := by omega
    simp only [h1, decide_true, Bool.true_or] at HS
    clear C
    go_wp2
    go_ret
    exact ⟨by rw [HS]; rfl, hB⟩
  · have x1 : ¬ (n : Int) < (fl : Int) := by omega
    by_cases h2 : k < l.length
    · have hh := (h.below hB hg).hi k h2
      have x2 : (k : Int) < (l.length : Int) := by omega
      have x3 : (0 : Int) ≤ (k : Int) := by omega
      have x4 : (k : Int) < 32 := by omega
      simp only [h1, h2, decide_true, decide_false, Bool.false_or, Bool.true_and] at HS
      generalize (l.getD k (0, 0)).2 = x at *
      clear C
      go_wp2
      go_ret
      exact ⟨by rw [HS]; rfl, hB⟩
    · have x2 : ¬ (k : Int) < (l.length : Int) := by omega
      simp only [h1, h2, decide_false, Bool.false_or, Bool.false_and] at HS
      clear C
      go_wp2
      go_ret
      exact ⟨by rw [HS]; rfl, hB⟩
set_option maxHeartbeats 4000000 in
set_option maxRecDepth 100000 in
theorem has_nil (n : Nat) (W : World) : Calls Try.prog 12 #[.pointer none, .int .u64 (n : Int)] W fun e w' => e = .returned (.bool false) ∧ Below W.heap.size W w' := by
  go_enter Try.func12, Try.ntmps12
  go_wp2
  go_ret
  exact ⟨rfl, Below.refl _ _⟩
def nextS (l : List (Nat × Nat)) : Nat := if 0 < l.length then (l.getD 0 (0, 0)).2 + 1 else 0
set_option maxHeartbeats 4000000 in
set_option maxRecDepth 100000 in
theorem next_c (g fl : Nat) (l : List (Nat × Nat)) (hl : Sn l fl) (W : World) (h : SM W g l fl) :
    Calls Try.prog 17 #[.pointer (some ⟨g, 0, none⟩)] W fun e w' => e = .returned (.int .u64 (nextS l : Int)) ∧ Below W.heap.size W w' := by
  have hg := h.lt
  have hn := h.num
  by_cases h0 : 0 < l.length
  · have hh := h.hi 0 h0
    have e : nextS l = (l.getD 0 (0, 0)).2 + 1 := if_pos h0
    have ht := hl.top (l.getD 0 (0, 0)) (by rw [getD_lt' _ _ _ h0]; exact List.getElem_mem _)
    have x1 : ¬ ((l.length : Int) = 0) := by omega
    generalize (l.getD 0 (0, 0)).2 = x at *
    have w1 : IntKind.u64.wrap ((x : Int) + 1) = (x : Int) + 1 := by
      simp [IntKind.wrap, IntKind.bits, IntKind.signed]
      omega
    rw [Nat.zero_mul, Nat.zero_add] at hh
    go_enter Try.func17, Try.ntmps17
    go_wp2
    go_ret
    exact ⟨by rw [e]; rfl, Below.refl _ _⟩
  · have e : nextS l = 0 := if_neg h0
    have x1 : (l.length : Int) = 0 := by omega
    rw [x1] at hn
    go_enter Try.func17, Try.ntmps17
    go_wp2
    go_ret
    exact ⟨by rw [e]; rfl, Below.refl _ _⟩
set_option maxHeartbeats 4000000 in
set_option maxRecDepth 100000 in
theorem next_nil (W : World) : Calls Try.prog 17 #[.pointer none] W fun e w' => e = .returned (.int .u64 0) ∧ Below W.heap.size W w' := by
  go_enter Try.func17, Try.ntmps17
  go_wp2
  go_ret
  exact ⟨rfl, Below.refl _ _⟩
end Go.Proofs.Ytnahjmladhbmpaa
