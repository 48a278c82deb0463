/- An operation taken first, handed over as the list of the region's operations writes it. -/
import Derived.Test.YtmceebdaaegkeaaDoorFk
import Derived.Test.YtmceebdaaegkeaaDoorFm
namespace Go.Proofs.YtmceebdaaegkeaaDoor
open Go.RowKit
theorem wpAnyZ_takeL {P : Program} {md : Region.Mode} {ops : Array Oper} {Q : Exit → Act → World → Prop} {S : World → Prop} {z : Nat} (i : Nat) {oi : Oper} {v : Value} {fuel : Nat} {listed : Array Bool} {a : Act} {w : World} (hi : ops.toList[i]? = some oi)
    (hs : Region.noSelect ops = true) (hf : Region.free md ops listed i = true) (hr : (Region.ready md ops listed).contains i = true) (hwz : (Region.waitsFor md ops z i && i != z) = true) (hlz : listed.getD z true = false)
    (hQ : ∀ c a w, Q (.panic c) (a.put oi.dst v) w → Q (.panic c) a w) (hy : YieldsIf P ops S oi v a) (hS : S w)
    (h : wpAnyZ P md ops Q S z fuel (listed.setIfInBounds i true) (a.put oi.dst v) w) : wpAnyZ P md ops Q S z (fuel + 1) listed a w :=
  wpAnyZ_take (by rw [← hi, Array.getElem?_toList]) hs hf hr hwz hlz hQ hy hS h


end Go.Proofs.YtmceebdaaegkeaaDoor
/- The document's long numbers (package of the reference): how one lies in memory; the contract of part, Num. -/
namespace Go.Proofs.YtmceebdaaegkeaaDoor
open Go.RowKit

/-- A long number in memory: n parts of 16 bits from the head of block g on, no part behind them. -/
structure Sl (w : World) (g n : Nat) (f : Nat → Nat) : Prop where
  cell : ∀ i, i < n → w.cell? ⟨g, i, none⟩ = some (.int .u32 ((f i : Nat) : Int))
  lt : ∀ i, f i < 65536
  high : ∀ i, n ≤ i → f i = 0
  blk : g < w.heap.size
def SlV (g n c : Nat) : Value := .slice (some ⟨g, 0, none⟩) n c
theorem Sl.below {w w1 : World} {g n : Nat} {f : Nat → Nat} (h : Sl w g n f) (hb : Below w.heap.size w w1) : Sl w1 g n f :=
  ⟨fun i hi => (hb.cell (p := ⟨g, i, none⟩) h.blk).trans (h.cell i hi), h.lt, h.high, Nat.lt_of_lt_of_le h.blk hb.size⟩
theorem Sl.drewN {w : World} {g n : Nat} {f : Nat → Nat} (h : Sl w g n f) (k : Nat) : Sl (w.drewN k) g n f := ⟨h.cell, h.lt, h.high, h.blk⟩
theorem Sl.drew {w : World} {g n : Nat} {f : Nat → Nat} (h : Sl w g n f) : Sl w.drew g n f := ⟨h.cell, h.lt, h.high, h.blk⟩
theorem Sl.of_blk {w : World} {g n : Nat} {t : TypeId} {f : Nat → Nat} (h : Blk w g t (Iv .u32 ((List.range n).map fun i => ((f i : Nat) : Int)))) (hf : ∀ i, f i < 65536) (hh : ∀ i, n ≤ i → f i = 0) : Sl w g n f :=
  ⟨fun i hi => by rw [h.cell, Iv_get _ _ _ (by simpa using hi)]; simp [hi], hf, hh, h.lt⟩
/-- The number of the first k parts. -/
def lv (f : Nat → Nat) : Nat → Nat
  | 0 => 0
  | k + 1 => lv f k + f k * 65536 ^ k
theorem lv_lt (f : Nat → Nat) (hf : ∀ i, f i < 65536) : ∀ k, lv f k < 65536 ^ k
  | 0 => by simp [lv]
  | k + 1 => by
    have ih := lv_lt f hf k
    have h := hf k
    have h2 : f k * 65536 ^ k ≤ 65535 * 65536 ^ k := Nat.mul_le_mul_right _ (by omega)
    have h3 : (65536 : Nat) ^ (k + 1) = 65536 * 65536 ^ k := by rw [Nat.pow_succ, Nat.mul_comm]
    simp only [lv]
    omega
theorem lv_high (f : Nat → Nat) (n : Nat) (hh : ∀ i, n ≤ i → f i = 0) : ∀ k, n ≤ k → lv f k = lv f n
  | 0, h => by rw [Nat.le_zero.1 h]
  | k + 1, h => by
    by_cases hk : n ≤ k
    · simp only [lv]
      rw [hh k hk, Nat.zero_mul, Nat.add_zero, lv_high f n hh k hk]
    · rw [show n = k + 1 by omega]

set_option maxHeartbeats 1000000 in
theorem part_any (g n c : Nat) (f : Nat → Nat) (i : Nat) (w : World) (h : Sl w g n f) :
    Calls Tryd.prog 43 #[SlV g n c, .int .i64 i] w fun e w' => e = .returned (.int .u32 ((f i : Nat) : Int)) ∧ w = w' := by
  unfold SlV
  by_cases hlt : i < n
  · have hc := h.cell i hlt
    go_enter Tryd.func43, Tryd.ntmps43
    go_wp2
    go_ret
    exact ⟨rfl, rfl⟩
  · have h0 := h.high i (by omega)
    rw [h0]
    go_enter Tryd.func43, Tryd.ntmps43
    go_wp2
    go_ret
    exact ⟨rfl, rfl⟩

/-- The parts of a number of two parts. -/
def numF (x i : Nat) : Nat := if i = 0 then x % 65536 else if i = 1 then x / 65536 else 0
theorem and16 (x : Int) (h0 : 0 ≤ x) (h1 : x < 4294967296) : bits .and .u32 x 65535 = x % 65536 := by
  obtain ⟨n, rfl⟩ := Int.eq_ofNat_of_zero_le h0
  have h := u32_and_nat n 65535 (by omega) (by omega)
  have e : n &&& 65535 = n % 65536 := Nat.and_two_pow_sub_one_eq_mod n 16
  rw [e] at h
  exact h
theorem numF_num (x : Nat) (_hx : x < 4294967296) : lv (numF x) 2 = x := by simp [lv, numF]; omega
/-- A call hands back a new long number, and leaves what was there as it was. -/
def RetSl (w : World) (n : Nat) (f : Nat → Nat) (e : Ending) (w' : World) : Prop := ∃ g c, e = .returned (SlV g n c) ∧ Sl w' g n f ∧ w.heap.size ≤ g ∧ Below w.heap.size w w'
/-- The parts of 2^255 - 19. -/
def pF (i : Nat) : Nat := if i = 0 then 65517 else if i < 15 then 65535 else if i = 15 then 32767 else 0
theorem pF_num : lv pF 16 = pp := by decide +kernel
theorem pF_lt (i : Nat) : pF i < 65536 := by unfold pF; split <;> (try split) <;> (try split) <;> omega
theorem pF_high (i : Nat) (h : 16 ≤ i) : pF i = 0 := by unfold pF; rw [if_neg (by omega), if_neg (by omega), if_neg (by omega)]
theorem p_list : ((fill 16 (fun _ => 65535) 16).set 0 65517).set 15 32767 = (List.range 16).map fun i => ((pF i : Nat) : Int) := by
  simp [fill, List.range, List.range.loop, pF]
structure PW (w wr : World) (k : Nat) : Prop where
  key : Blk wr w.heap.size 71 (Iv .u32 (fill 16 (fun _ => 65535) k))
  b : Below w.heap.size w wr
theorem PW.step {w wr : World} {k : Nat} (h : PW w wr k) : PW w (wr.setCell ⟨w.heap.size, k, none⟩ (.int .u32 65535)) (k + 1) := by
  refine ⟨?_, h.b.setCell (by simp) _⟩
  have := h.key.set k (.int .u32 65535)
  rw [Iv_set, fill_set 16 (fun _ => 65535) k] at this
  exact this
end Go.Proofs.YtmceebdaaegkeaaDoor
/- Contracts of the reference's Less, Minus, Sum. -/
namespace Go.Proofs.YtmceebdaaegkeaaDoor
open Go.RowKit

/-- Two numbers have the same parts from k on. -/
structure EqAbove (fa fb : Nat → Nat) (k : Nat) : Prop where
  eq : ∀ i, k ≤ i → fa i = fb i
theorem EqAbove.down {fa fb : Nat → Nat} {k : Nat} (h : EqAbove fa fb (k + 1)) (hk : fa k = fb k) : EqAbove fa fb k :=
  ⟨fun i hi => by by_cases e : i = k
                  · rw [e, hk]
                  · exact h.eq i (by omega)⟩
theorem lv_above (fa fb : Nat → Nat) (k : Nat) (h : EqAbove fa fb k) : ∀ n, k ≤ n → ∃ d, lv fa n = lv fa k + d ∧ lv fb n = lv fb k + d
  | 0, hn => ⟨0, by rw [Nat.le_zero.1 hn]; rfl, by rw [Nat.le_zero.1 hn]; rfl⟩
  | n + 1, hn => by
    by_cases hk : k ≤ n
    · obtain ⟨d, h1, h2⟩ := lv_above fa fb k h n hk
      refine ⟨d + fa n * 65536 ^ n, ?_, ?_⟩
      · simp only [lv]; omega
      · simp only [lv]; rw [h.eq n hk]; omega
    · obtain rfl : k = n + 1 := by omega
      exact ⟨0, rfl, rfl⟩
theorem less_same (fa fb : Nat → Nat) (n : Nat) (h : EqAbove fa fb 0) : decide (lv fa n < lv fb n) = false := by
  obtain ⟨d, h1, h2⟩ := lv_above fa fb 0 h n (by omega)
  rw [decide_eq_false_iff_not, h1, h2]
  simp [lv]
theorem less_at (fa fb : Nat → Nat) (hfa : ∀ i, fa i < 65536) (hfb : ∀ i, fb i < 65536) (n k : Nat) (hk : k < n) (h : EqAbove fa fb (k + 1)) (hne : fa k ≠ fb k) : decide (lv fa n < lv fb n) = decide (fa k < fb k) := by
  obtain ⟨d, h1, h2⟩ := lv_above fa fb (k + 1) h n hk
  have la := lv_lt fa hfa k
  have lb := lv_lt fb hfb k
  rw [decide_eq_decide, h1, h2]
  simp only [lv]
  rcases Nat.lt_or_gt_of_ne hne with hl | hl
  · have : (fa k + 1) * 65536 ^ k ≤ fb k * 65536 ^ k := Nat.mul_le_mul_right _ hl
    rw [Nat.add_mul] at this
    constructor
    · intro _; exact hl
    · intro _; omega
  · have : (fb k + 1) * 65536 ^ k ≤ fa k * 65536 ^ k := Nat.mul_le_mul_right _ hl
    rw [Nat.add_mul] at this
    constructor
    · intro _; omega
    · intro _; omega

set_option maxHeartbeats 2000000 in
set_option maxRecDepth 100000 in
theorem less_any (ga na ca gb nb cb : Nat) (fa fb : Nat → Nat) (w : World) (ha : Sl w ga na fa) (hb : Sl w gb nb fb) (hna : na < 4294967296) (hnb : nb < 4294967296) :
    Calls Tryd.prog 41 #[SlV ga na ca, SlV gb nb cb] w fun e w' => e = .returned (.bool (decide (lv fa na < lv fb nb))) ∧ w = w' := by
  by_cases hmax : na < nb
  · have hE : EqAbove fa fb nb := ⟨fun i hi => by rw [ha.high i (by omega), hb.high i hi]⟩
    rw [← lv_high fa na ha.high nb (by omega)]
    unfold SlV
    go_enter Tryd.func41, Tryd.ntmps41
    go_wp2
    go_loop [6] (fun i => ∃ k : Nat, k ≤ nb ∧ (∃ z : Int, i = .int .i64 z ∧ z = (k : Int) - 1) ∧ EqAbove fa fb k) (fun i => (intOf i + 1).toNat)
    case atStart => exact ⟨nb, Nat.le_refl _, ⟨_, rfl, by omega⟩, hE⟩
    case round =>
      obtain ⟨k, hk, ⟨z, rfl, hz⟩, hA⟩ := hrel
      cases k with
      | zero =>
        obtain rfl : z = -1 := by omega
        have hq := less_same fa fb nb hA
        have HQ := Lib.hid hq
        clear hq hz
        go_wp2
        go_ret
        exact ⟨ret_bool HQ.out.symm, rfl⟩
      | succ j =>
        obtain rfl : z = (j : Int) := by omega
        have PA := fun W (h : Sl W ga na fa) => part_any ga na ca fa j W h
        have PB := fun W (h : Sl W gb nb fb) => part_any gb nb cb fb j W h
        by_cases hd : fa j = fb j
        · have hA2 := hA.down hd
          have hd2 : (((fa j : Nat) : Int) != ((fb j : Nat) : Int)) = false := by rw [hd]; simp
          clear hd hz
          go_wp2_with fail
          refine (PA _ ha).mono ?_
          rintro e w' ⟨rfl, rfl⟩
          go_wp2_with fail
          refine (PB _ hb).mono ?_
          rintro e w' ⟨rfl, rfl⟩
          go_wp2
          go_round
          case rel => exact ⟨j, by omega, ⟨_, rfl, rfl⟩, hA2⟩
          case measure => simp [intOf]
        · have hl := less_at fa fb ha.lt hb.lt nb j (by omega) hA hd
          have hd2 : (((fa j : Nat) : Int) != ((fb j : Nat) : Int)) = true := by rw [bne_iff_ne]; omega
          have HL := Lib.hid hl
          clear hd hz hl
          go_wp2_with fail
          refine (PA _ ha).mono ?_
          rintro e w' ⟨rfl, rfl⟩
          go_wp2_with fail
          refine (PB _ hb).mono ?_
          rintro e w' ⟨rfl, rfl⟩
          go_wp2_with fail
          refine (PA _ ha).mono ?_
          rintro e w' ⟨rfl, rfl⟩
          go_wp2_with fail
          refine (PB _ hb).mono ?_
          rintro e w' ⟨rfl, rfl⟩
          go_wp2
          go_ret
          refine ⟨ret_bool ?_, rfl⟩
          rw [HL.out, decide_eq_decide]
  · have hE : EqAbove fa fb na := ⟨fun i hi => by rw [ha.high i hi, hb.high i (by omega)]⟩
    rw [← lv_high fb nb hb.high na (by omega)]
    unfold SlV
    go_enter Tryd.func41, Tryd.ntmps41
    go_wp2
    go_loop [6] (fun i => ∃ k : Nat, k ≤ na ∧ (∃ z : Int, i = .int .i64 z ∧ z = (k : Int) - 1) ∧ EqAbove fa fb k) (fun i => (intOf i + 1).toNat)
    case atStart => exact ⟨na, Nat.le_refl _, ⟨_, rfl, by omega⟩, hE⟩
    case round =>
      obtain ⟨k, hk, ⟨z, rfl, hz⟩, hA⟩ := hrel
      cases k with
      | zero =>
        obtain rfl : z = -1 := by omega
        have hq := less_same fa fb na hA
        have HQ := Lib.hid hq
        clear hq hz
        go_wp2
        go_ret
        exact ⟨ret_bool HQ.out.symm, rfl⟩
      | succ j =>
        obtain rfl : z = (j : Int) := by omega
        have PA := fun W (h : Sl W ga na fa) => part_any ga na ca fa j W h
        have PB := fun W (h : Sl W gb nb fb) => part_any gb nb cb fb j W h
        by_cases hd : fa j = fb j
        · have hA2 := hA.down hd
          have hd2 : (((fa j : Nat) : Int) != ((fb j : Nat) : Int)) = false := by rw [hd]; simp
          clear hd hz
          go_wp2_with fail
          refine (PA _ ha).mono ?_
          rintro e w' ⟨rfl, rfl⟩
          go_wp2_with fail
          refine (PB _ hb).mono ?_
          rintro e w' ⟨rfl, rfl⟩
          go_wp2
          go_round
          case rel => exact ⟨j, by omega, ⟨_, rfl, rfl⟩, hA2⟩
          case measure => simp [intOf]
        · have hl := less_at fa fb ha.lt hb.lt na j (by omega) hA hd
          have hd2 : (((fa j : Nat) : Int) != ((fb j : Nat) : Int)) = true := by rw [bne_iff_ne]; omega
          have HL := Lib.hid hl
          clear hd hz hl
          go_wp2_with fail
          refine (PA _ ha).mono ?_
          rintro e w' ⟨rfl, rfl⟩
          go_wp2_with fail
          refine (PB _ hb).mono ?_
          rintro e w' ⟨rfl, rfl⟩
          go_wp2_with fail
          refine (PA _ ha).mono ?_
          rintro e w' ⟨rfl, rfl⟩
          go_wp2_with fail
          refine (PB _ hb).mono ?_
          rintro e w' ⟨rfl, rfl⟩
          go_wp2
          go_ret
          refine ⟨ret_bool ?_, rfl⟩
          rw [HL.out, decide_eq_decide]
/-- The borrow behind k parts, and part k of a difference. -/
def brw (fa fb : Nat → Nat) : Nat → Nat
  | 0 => 0
  | k + 1 => if fa k < fb k + brw fa fb k then 1 else 0
def subF (n : Nat) (fa fb : Nat → Nat) (i : Nat) : Nat := if i < n then (fa i + 65536 - fb i - brw fa fb i) % 65536 else 0
theorem brw_le (fa fb : Nat → Nat) : ∀ k, brw fa fb k ≤ 1
  | 0 => by simp [brw]
  | k + 1 => by unfold brw; split <;> omega
theorem sub_num (fa fb : Nat → Nat) (hfa : ∀ i, fa i < 65536) (hfb : ∀ i, fb i < 65536) (n : Nat) : ∀ k, k ≤ n → lv (subF n fa fb) k + lv fb k = lv fa k + brw fa fb k * 65536 ^ k
  | 0, _ => by simp [lv, brw]
  | k + 1, h => by
    have ih := sub_num fa fb hfa hfb n k (by omega)
    have h1 := hfa k
    have h2 := hfb k
    have h3 := brw_le fa fb k
    have e : subF n fa fb k + fb k + brw fa fb k = fa k + brw fa fb (k + 1) * 65536 := by
      simp only [subF, brw, if_pos (show k < n by omega)]
      split <;> omega
    have e2 : subF n fa fb k * 65536 ^ k + fb k * 65536 ^ k + brw fa fb k * 65536 ^ k = fa k * 65536 ^ k + brw fa fb (k + 1) * 65536 ^ (k + 1) := by
      rw [← Nat.add_mul, ← Nat.add_mul, e, Nat.add_mul, Nat.pow_succ, Nat.mul_assoc, Nat.mul_comm 65536 (65536 ^ k)]
    simp only [lv]
    omega


end Go.Proofs.YtmceebdaaegkeaaDoor
