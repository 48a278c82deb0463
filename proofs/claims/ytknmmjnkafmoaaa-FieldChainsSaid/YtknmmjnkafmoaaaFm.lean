/- The contract of Awake: the chapter's examples hold. -/
import Derived.Test.YtknmmjnkafmoaaaFl
namespace Go.Proofs.Ytknmmjnkafmoaaa
open Go.RowKit

/-- The same power, bit by bit. -/
def climb (a v : Nat) : Nat → Nat
  | 0 => 1
  | k + 1 => swapped (v / 2 ^ (255 - k)) (climb a v k * climb a v k % pp) (climb a v k * climb a v k % pp * a % pp)
theorem climb_eq (a v : Nat) (ha : a < pp) (hv : v < 2 ^ 256) : ∀ k, k ≤ 256 → climb a v k = mpow a (v / 2 ^ (256 - k))
  | 0, _ => by
    rw [show 256 - 0 = 256 from rfl, Nat.div_eq_of_lt hv, mpow_zero]
    rfl
  | k + 1, h => by
    unfold climb
    rw [climb_eq a v ha hv k (by omega), mpow_step a v k ha (by omega)]
theorem climb_256 (a v : Nat) (ha : a < pp) (hv : v < 2 ^ 256) : mpow a v = climb a v 256 := by
  rw [climb_eq a v ha hv 256 (Nat.le_refl _), Nat.sub_self, Nat.pow_zero, Nat.div_one]
theorem half_two : mpow 2 57896044618658097711785492504343953926634992332820282019728792003956564819947 * 2 % pp = 1 := by
  rw [climb_256 2 _ (by rw [pp_eq]; decide) (by decide)]
  decide +kernel
theorem ofs_18 : leTo (fun _ => 255) 32 % 57896044618658097711785492504343953926634992332820282019728792003956564819968 % pp = 18 := by decide +kernel

theorem key_18 : Iv .u8 (keyOf 18) = #[.int .u8 18, .int .u8 0, .int .u8 0, .int .u8 0, .int .u8 0, .int .u8 0, .int .u8 0, .int .u8 0, .int .u8 0, .int .u8 0, .int .u8 0, .int .u8 0, .int .u8 0, .int .u8 0, .int .u8 0, .int .u8 0, .int .u8 0, .int .u8 0, .int .u8 0, .int .u8 0, .int .u8 0, .int .u8 0, .int .u8 0, .int .u8 0, .int .u8 0, .int .u8 0, .int .u8 0, .int .u8 0, .int .u8 0, .int .u8 0, .int .u8 0, .int .u8 0] := by
  simp [keyOf, Iv, byteAt, List.range, List.range.loop]
theorem key_1 : Iv .u8 (keyOf 1) = #[.int .u8 1, .int .u8 0, .int .u8 0, .int .u8 0, .int .u8 0, .int .u8 0, .int .u8 0, .int .u8 0, .int .u8 0, .int .u8 0, .int .u8 0, .int .u8 0, .int .u8 0, .int .u8 0, .int .u8 0, .int .u8 0, .int .u8 0, .int .u8 0, .int .u8 0, .int .u8 0, .int .u8 0, .int .u8 0, .int .u8 0, .int .u8 0, .int .u8 0, .int .u8 0, .int .u8 0, .int .u8 0, .int .u8 0, .int .u8 0, .int .u8 0, .int .u8 0] := by
  simp [keyOf, Iv, byteAt, List.range, List.range.loop]
theorem eql_key_self (n : Nat) (W : World) : (binOp .eql 23 (.agg (Iv .u8 (keyOf n))) (.agg (Iv .u8 (keyOf n)))).run Try.prog W = .ok (.bool true) W := by
  rw [eql_keys _ _ (keyOf_length n) (keyOf_length n)]
  simp

theorem eql_key_18 (W : World) : (binOp .eql 23 (.agg (Iv .u8 (keyOf 18))) (.agg #[.int .u8 18, .int .u8 0, .int .u8 0, .int .u8 0, .int .u8 0, .int .u8 0, .int .u8 0, .int .u8 0, .int .u8 0, .int .u8 0, .int .u8 0, .int .u8 0, .int .u8 0, .int .u8 0, .int .u8 0, .int .u8 0, .int .u8 0, .int .u8 0, .int .u8 0, .int .u8 0, .int .u8 0, .int .u8 0, .int .u8 0, .int .u8 0, .int .u8 0, .int .u8 0, .int .u8 0, .int .u8 0, .int .u8 0, .int .u8 0, .int .u8 0, .int .u8 0])).run Try.prog W = .ok (.bool true) W := by
  rw [← key_18]
  exact eql_key_self 18 W
theorem eql_key_1 (W : World) : (binOp .eql 23 (.agg (Iv .u8 (keyOf 1))) (.agg #[.int .u8 1, .int .u8 0, .int .u8 0, .int .u8 0, .int .u8 0, .int .u8 0, .int .u8 0, .int .u8 0, .int .u8 0, .int .u8 0, .int .u8 0, .int .u8 0, .int .u8 0, .int .u8 0, .int .u8 0, .int .u8 0, .int .u8 0, .int .u8 0, .int .u8 0, .int .u8 0, .int .u8 0, .int .u8 0, .int .u8 0, .int .u8 0, .int .u8 0, .int .u8 0, .int .u8 0, .int .u8 0, .int .u8 0, .int .u8 0, .int .u8 0, .int .u8 0])).run Try.prog W = .ok (.bool true) W := by
  rw [← key_1]
  exact eql_key_self 1 W

structure AwakeW (w wr : World) (k : Nat) : Prop where
  key : Blk wr w.heap.size 23 (Iv .u8 (fill 32 (fun _ => 255) k))
  b : Below w.heap.size w wr
theorem AwakeW.step {w wr : World} {k : Nat} (h : AwakeW w wr k) : AwakeW w (wr.setCell ⟨w.heap.size, k, none⟩ (.int .u8 255)) (k + 1) := by
  refine ⟨?_, h.b.setCell (by simp) _⟩
  have := h.key.set k (.int .u8 255)
  rw [Iv_set, fill_set 32 (fun _ => 255) k] at this
  exact this
theorem bytes_255 : Bytes32 (fill 32 (fun _ => 255) 32) (fun _ => 255) := ⟨by simp [fill], fun i h => by rw [fill_getD _ _ _ _ h, if_pos h]; rfl, fun i => by decide⟩

set_option maxHeartbeats 4000000 in
set_option maxRecDepth 100000 in
theorem awake_any (w : World) : Calls Try.prog 12 #[] w fun e w' => e = .returned (.bool true) ∧ Below w.heap.size w w' := by
  have cOf := fun W => of_any (fill 32 (fun _ => 255) 32) (fun _ => 255) bytes_255 W
  rw [ofs_18] at cOf
  have cB := fun W => bytes_any 18 W (by rw [pp_eq]; decide)
  have cB1 := fun W => bytes_any 1 W (by rw [pp_eq]; decide)
  have cS := fun W => small_any 2 W (by decide)
  have cI := fun W => invert_any 2 W (by rw [pp_eq]; decide)
  have cM := fun W => mul_any (mpow 2 57896044618658097711785492504343953926634992332820282019728792003956564819947) 2 W (mpow_lt _ _) (by rw [pp_eq]; decide)
  rw [half_two] at cM
  generalize mpow 2 57896044618658097711785492504343953926634992332820282019728792003956564819947 = H at cI cM
  have q18 := eql_key_18
  have q1 := eql_key_1
  unfold Key at cOf cB cB1
  unfold El at cOf cB cB1 cS cI cM
  generalize El_cells 18 = c18 at cOf cB
  generalize El_cells 2 = c2 at cS cI cM
  generalize El_cells H = cH at cI cM
  generalize El_cells 1 = c1 at cM cB1
  generalize Iv .u8 (keyOf 18) = k18 at cB q18
  generalize Iv .u8 (keyOf 1) = k1 at cB1 q1
  have COf := Lib.hid cOf; have CB := Lib.hid cB; have CB1 := Lib.hid cB1; have CS := Lib.hid cS; have CI := Lib.hid cI; have CM := Lib.hid cM
  clear cOf cB cB1 cS cI cM
  go_enter Try.func12, Try.ntmps12
  go_wp2
  generalize hW : World.alloc w _ = W
  have F0 : AwakeW w W 0 := by
    subst hW
    exact ⟨Blk.new _ _ _, (Below.refl _ _).alloc (Nat.le_refl _) _⟩
  clear hW
  go_loopw [3] (fun i wr => ∃ k : Nat, k ≤ 32 ∧ i = .int .i64 k ∧ AwakeW w wr k) (fun i _ => 32 - (intOf i).toNat)
  case atStart => exact ⟨0, by omega, rfl, F0⟩
  case round =>
    obtain ⟨k, hk, rfl, F⟩ := hrel
    clear F0
    by_cases hlt : k < 32
    · have c5 : wr.cell? ⟨w.heap.size, k, none⟩ = some (.int .u8 0) := by
        rw [F.key.cell, Iv_get _ _ _ (by rw [fill_length]; omega), fill_getD _ _ _ _ hlt, if_neg (by omega)]
      have f5 := F.key.frozen k
      go_wp2
      exact ⟨⟨k + 1, by omega, by go_num, F.step⟩, by simp [intOf]; omega⟩
    · obtain rfl : k = 32 := by omega
      obtain ⟨HK, HB⟩ := F
      go_wp2_with (refine wpList_load_row rfl 23 _ rfl w.heap.size rfl 23 _ (0, 0) _ HK Try.underlying23 rfl (info_key _ (by simp [fill])) ?_)
      refine (COf.out _).mono ?_
      rintro e w1 ⟨rfl, b1⟩
      have HB1 := HB.trans (b1.mono HB.size)
      clear b1 HB HK
      go_wp2_with fail
      refine (CB.out _).mono ?_
      rintro e w2 ⟨rfl, b2⟩
      have HB2 := HB1.trans (b2.mono HB1.size)
      clear b2 HB1
      go_wp2_with fail
      refine (CS.out _).mono ?_
      rintro e w3 ⟨rfl, b3⟩
      have HB3 := HB2.trans (b3.mono HB2.size)
      clear b3 HB2
      go_wp2_with fail
      refine (CI.out _).mono ?_
      rintro e w4 ⟨rfl, b4⟩
      have HB4 := HB3.trans (b4.mono HB3.size)
      clear b4 HB3
      go_wp2_with fail
      refine (CS.out _).mono ?_
      rintro e w5 ⟨rfl, b5⟩
      have HB5 := HB4.trans (b5.mono HB4.size)
      clear b5 HB4
      go_wp2_with fail
      refine (CM.out _).mono ?_
      rintro e w6 ⟨rfl, b6⟩
      have HB6 := HB5.trans (b6.mono HB5.size)
      clear b6 HB5
      go_wp2_with fail
      refine (CB1.out _).mono ?_
      rintro e w7 ⟨rfl, b7⟩
      have HB7 := HB6.trans (b7.mono HB6.size)
      clear b7 HB6
      go_wp2
      go_ret
      exact ⟨rfl, HB7⟩
end Go.Proofs.Ytknmmjnkafmoaaa
