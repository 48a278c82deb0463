/- The contract of Awake: the chapter's examples hold. -/
import Derived.Test.YtjaomgildhiddaaDoorFl
namespace Go.Proofs.YtjaomgildhiddaaDoor
open Go.RowKit

/-- The same power, bit by bit. -/
def climb (a v : Nat) : Nat → Nat
  | 0 => 1
  | k + 1 => swapped (v / 2 ^ (255 - k)) (climb a v k * climb a v k % pp) (climb a v k * climb a v k % pp * a % pp)
theorem climb_eq (a v : Nat) (ha : a < pp) (hv : v < 2 ^ 256) : ∀ k, k ≤ 256 → climb a v k = mpow a (v / 2 ^ (256 - k))
  | 0, _ => by
    rw [show 256 - 0 = 256 from rfl, Nat.div_eq_of_lt hv, mpow_zero]
    rfl
  | k + 1, h => by
    unfold climb
    rw [climb_eq a v ha hv k (by omega), mpow_step a v k ha (by omega)]
theorem climb_256 (a v : Nat) (ha : a < pp) (hv : v < 2 ^ 256) : mpow a v = climb a v 256 := by
  rw [climb_eq a v ha hv 256 (Nat.le_refl _), Nat.sub_self, Nat.pow_zero, Nat.div_one]
theorem half_two : mpow 2 57896044618658097711785492504343953926634992332820282019728792003956564819947 * 2 % pp = 1 := by
  rw [climb_256 2 _ (by rw [pp_eq]; decide) (by decide)]
  decide +kernel
theorem ofs_18 : leTo (fun _ => 255) 32 % 57896044618658097711785492504343953926634992332820282019728792003956564819968 % pp = 18 := by decide +kernel

theorem key_18 : Iv .u8 (keyOf 18) = #[.int .u8 18, .int .u8 0, .int .u8 0, .int .u8 0, .int .u8 0, .int .u8 0, .int .u8 0, .int .u8 0, .int .u8 0, .int .u8 0, .int .u8 0, .int .u8 0, .int .u8 0, .int .u8 0, .int .u8 0, .int .u8 0, .int .u8 0, .int .u8 0, .int .u8 0, .int .u8 0, .int .u8 0, .int .u8 0, .int .u8 0, .int .u8 0, .int .u8 0, .int .u8 0, .int .u8 0, .int .u8 0, .int .u8 0, .int .u8 0, .int .u8 0, .int .u8 0] := by
  simp [keyOf, Iv, byteAt, List.range, List.range.loop]
theorem key_1 : Iv .u8 (keyOf 1) = #[.int .u8 1, .int .u8 0, .int .u8 0, .int .u8 0, .int .u8 0, .int .u8 0, .int .u8 0, .int .u8 0, .int .u8 0, .int .u8 0, .int .u8 0, .int .u8 0, .int .u8 0, .int .u8 0, .int .u8 0, .int .u8 0, .int .u8 0, .int .u8 0, .int .u8 0, .int .u8 0, .int .u8 0, .int .u8 0, .int .u8 0, .int .u8 0, .int .u8 0, .int .u8 0, .int .u8 0, .int .u8 0, .int .u8 0, .int .u8 0, .int .u8 0, .int .u8 0] := by
  simp [keyOf, Iv, byteAt, List.range, List.range.loop]
theorem eql_key_self (n : Nat) (W : World) : (binOp .eql 23 (.agg (Iv .u8 (keyOf n))) (.agg (Iv .u8 (keyOf n)))).run Tryd.prog W = .ok (.bool true) W := by
  rw [eql_keys _ _ (keyOf_length n) (keyOf_length n)]
  simp

theorem eql_key_18 (W : World) : (binOp .eql 23 (.agg (Iv .u8 (keyOf 18))) (.agg #[.int .u8 18, .int .u8 0, .int .u8 0, .int .u8 0, .int .u8 0, .int .u8 0, .int .u8 0, .int .u8 0, .int .u8 0, .int .u8 0, .int .u8 0, .int .u8 0, .int .u8 0, .int .u8 0, .int .u8 0, .int .u8 0, .int .u8 0, .int .u8 0, .int .u8 0, .int .u8 0, .int .u8 0, .int .u8 0, .int .u8 0, .int .u8 0, .int .u8 0, .int .u8 0, .int .u8 0, .int .u8 0, .int .u8 0, .int .u8 0, .int .u8 0, .int .u8 0])).run Tryd.prog W = .ok (.bool true) W := by
  rw [← key_18]
  exact eql_key_self 18 W
theorem eql_key_1 (W : World) : (binOp .eql 23 (.agg (Iv .u8 (keyOf 1))) (.agg #[.int .u8 1, .int .u8 0, .int .u8 0, .int .u8 0, .int .u8 0, .int .u8 0, .int .u8 0, .int .u8 0, .int .u8 0, .int .u8 0, .int .u8 0, .int .u8 0, .int .u8 0, .int .u8 0, .int .u8 0, .int .u8 0, .int .u8 0, .int .u8 0, .int .u8 0, .int .u8 0, .int .u8 0, .int .u8 0, .int .u8 0, .int .u8 0, .int .u8 0, .int .u8 0, .int .u8 0, .int .u8 0, .int .u8 0, .int .u8 0, .int .u8 0, .int .u8 0])).run Tryd.prog W = .ok (.bool true) W := by
  rw [← key_1]
  exact eql_key_self 1 W

structure AwakeW (w wr : World) (k : Nat) : Prop where
  key : Blk wr w.heap.size 23 (Iv .u8 (fill 32 (fun _ => 255) k))
  b : Below w.heap.size w wr
theorem AwakeW.step {w wr : World} {k : Nat} (h : AwakeW w wr k) : AwakeW w (wr.setCell ⟨w.heap.size, k, none⟩ (.int .u8 255)) (k + 1) := by
  refine ⟨?_, h.b.setCell (by simp) _⟩
  have := h.key.set k (.int .u8 255)
  rw [Iv_set, fill_set 32 (fun _ => 255) k] at this
  exact this
theorem bytes_255 : Bytes32 (fill 32 (fun _ => 255) 32) (fun _ => 255) := ⟨by simp [fill], fun i h => by rw [fill_getD _ _ _ _ h, if_pos h]; rfl, fun i => by decide⟩

end Go.Proofs.YtjaomgildhiddaaDoor
