/- The contract of field.Invert: to the power 2^255 - 21. -/
import Derived.Test.YtmceebdaaegkeaaDoorFk
namespace Go.Proofs.YtmceebdaaegkeaaDoor
open Go.RowKit

theorem ones_bytes (lo hi : Nat) (hlo : lo < 256) (hhi : hi < 256) : Bytes32 ((List.range 32).map fun i => ((onesOf lo hi i : Nat) : Int)) (onesOf lo hi) :=
  ⟨by simp, fun i h => by simp [h], fun i => by unfold onesOf; split <;> (try split) <;> omega⟩
theorem invert_exp : leTo (onesOf 235 127) 32 = 57896044618658097711785492504343953926634992332820282019728792003956564819947 := by decide +kernel

set_option maxHeartbeats 4000000 in
set_option maxRecDepth 100000 in
theorem invert_any (a : Nat) (w : World) (ha : a < pp) :
    Calls Tryd.prog 31 #[El a] w fun e w' => e = .returned (El (mpow a 57896044618658097711785492504343953926634992332820282019728792003956564819947)) ∧ Below w.heap.size w w' := by
  have cO := fun W => ones_any 235 127 W
  have cP := fun W => power_any a _ (onesOf 235 127) (ones_bytes 235 127 (by decide) (by decide)) W ha
  rw [invert_exp] at cP
  generalize (List.range 32).map (fun i => ((onesOf 235 127 i : Nat) : Int)) = l at cO cP
  obtain ⟨N, hN⟩ : ∃ N, N = mpow a 57896044618658097711785492504343953926634992332820282019728792003956564819947 := ⟨_, rfl⟩
  rw [← hN] at cP ⊢
  clear hN
  obtain ⟨x0, x1, x2, x3, x4, ex⟩ : ∃ x0 x1 x2 x3 x4 : Int, El_cells a = #[.int .u64 x0, .int .u64 x1, .int .u64 x2, .int .u64 x3, .int .u64 x4] := ⟨_, _, _, _, _, rfl⟩
  obtain ⟨n0, n1, n2, n3, n4, en⟩ : ∃ x0 x1 x2 x3 x4 : Int, El_cells N = #[.int .u64 x0, .int .u64 x1, .int .u64 x2, .int .u64 x3, .int .u64 x4] := ⟨_, _, _, _, _, rfl⟩
  unfold El at cP ⊢
  rw [ex, en] at cP
  rw [ex, en]
  have CP := Lib.hid cP
  have CO := Lib.hid cO
  clear cP cO ex en
  go_enter Tryd.func31, Tryd.ntmps31
  go_wp2
  generalize hW : World.alloc (World.alloc w _) _ = V
  have HX : Blk V w.heap.size 39 #[.int .u64 x0, .int .u64 x1, .int .u64 x2, .int .u64 x3, .int .u64 x4] := hW ▸ (Blk.new w _ _).alloc _
  have HR : Blk V (w.heap.size + 1) 39 #[.int .u64 0, .int .u64 0, .int .u64 0, .int .u64 0, .int .u64 0] := hW ▸ Blk.new' (by simp) _ _
  have HB : Below w.heap.size w V := hW ▸ ((Below.refl _ _).alloc (Nat.le_refl _) _).alloc (by simp) _
  clear hW
  refine wp_region_Z (S := fun w' => Five w' w.heap.size x0 x1 x2 x3 x4) 3 (by kernel_rfl) ?_
  refine wpAnyZ_take (i := 0) (v := ?_) rfl (by kernel_rfl) (by kernel_rfl) (by kernel_rfl) (by kernel_rfl) (by kernel_rfl) (fun _ _ _ h => h) (Or.inl ⟨by rfl, ?_⟩) HX.drew.five ?_
  rotate_left
  · intro w' hw'
    obtain ⟨s1, s2, s3, s4, s5⟩ := hw'
    go_simp
    try (with_reducible rfl)
  simp only [Act.put, List.setIfInBounds_toArray]
  refine wpAnyZ_one (i := 1) (by kernel_rfl) ?_
  unfold wpOp
  go_simp
  left
  refine (CO.out _).mono ?_
  rintro e w3 ⟨rfl, hb3⟩
  have HX3 := HX.drew.below hb3 HX.drew.lt
  have HR3 := HR.drew.below hb3 HR.drew.lt
  have HB3 := (below_drew HB).trans (hb3.mono (below_drew HB).size)
  clear hb3 HX HR HB
  refine ⟨HX3.five, ?_⟩
  refine wpAnyZ_one (i := 2) (by kernel_rfl) ?_
  unfold wpOp
  unfold Key at *
  go_simp
  left
  refine (CP.out _).mono ?_
  rintro e w4 ⟨rfl, hb4⟩
  have HX4 := HX3.below hb4 HX3.lt
  have HR4 := HR3.below hb4 HR3.lt
  have HB4 := HB3.trans (hb4.mono HB3.size)
  clear hb4 HX3 HR3 HB3
  refine ⟨HX4.five, ?_⟩
  obtain ⟨t0, t1, t2, t3, t4⟩ := HR4.five
  have fr := HR4.frozen
  have v0 := fr 0; have v1 := fr 1; have v2 := fr 2; have v3 := fr 3; have v4 := fr 4
  clear fr
  refine wpAnyZ_one (fuel := 0) (i := 3) (by kernel_rfl) ?_
  unfold wpOp
  go_simp
  left
  refine wpAnyZ_done (by kernel_rfl) ?_ _
  go_wp2
  exact bodyPost_ret (results_cell_row rfl _ _ _ 39 _ (0, 0) _ rfl (HR4.set5 _ _ _ _ _) Tryd.underlying39 rfl (info_El N)) rfl ⟨rfl, below_set5 HB4 (by omega) _ _ _ _ _⟩


end Go.Proofs.YtmceebdaaegkeaaDoor
/- The contract of Awake: the chapter's examples hold. -/
namespace Go.Proofs.YtmceebdaaegkeaaDoor
open Go.RowKit

/-- The same power, bit by bit. -/
def climb (a v : Nat) : Nat → Nat
  | 0 => 1
  | k + 1 => swapped (v / 2 ^ (255 - k)) (climb a v k * climb a v k % pp) (climb a v k * climb a v k % pp * a % pp)
theorem climb_eq (a v : Nat) (ha : a < pp) (hv : v < 2 ^ 256) : ∀ k, k ≤ 256 → climb a v k = mpow a (v / 2 ^ (256 - k))
  | 0, _ => by
    rw [show 256 - 0 = 256 from rfl, Nat.div_eq_of_lt hv, mpow_zero]
    rfl
  | k + 1, h => by
    unfold climb
    rw [climb_eq a v ha hv k (by omega), mpow_step a v k ha (by omega)]
theorem climb_256 (a v : Nat) (ha : a < pp) (hv : v < 2 ^ 256) : mpow a v = climb a v 256 := by
  rw [climb_eq a v ha hv 256 (Nat.le_refl _), Nat.sub_self, Nat.pow_zero, Nat.div_one]
theorem half_two : mpow 2 57896044618658097711785492504343953926634992332820282019728792003956564819947 * 2 % pp = 1 := by
  rw [climb_256 2 _ (by rw [pp_eq]; decide) (by decide)]
  decide +kernel
theorem ofs_18 : leTo (fun _ => 255) 32 % 57896044618658097711785492504343953926634992332820282019728792003956564819968 % pp = 18 := by decide +kernel

theorem key_18 : Iv .u8 (keyOf 18) = #[.int .u8 18, .int .u8 0, .int .u8 0, .int .u8 0, .int .u8 0, .int .u8 0, .int .u8 0, .int .u8 0, .int .u8 0, .int .u8 0, .int .u8 0, .int .u8 0, .int .u8 0, .int .u8 0, .int .u8 0, .int .u8 0, .int .u8 0, .int .u8 0, .int .u8 0, .int .u8 0, .int .u8 0, .int .u8 0, .int .u8 0, .int .u8 0, .int .u8 0, .int .u8 0, .int .u8 0, .int .u8 0, .int .u8 0, .int .u8 0, .int .u8 0, .int .u8 0] := by
  simp [keyOf, Iv, byteAt, List.range, List.range.loop]
theorem key_1 : Iv .u8 (keyOf 1) = #[.int .u8 1, .int .u8 0, .int .u8 0, .int .u8 0, .int .u8 0, .int .u8 0, .int .u8 0, .int .u8 0, .int .u8 0, .int .u8 0, .int .u8 0, .int .u8 0, .int .u8 0, .int .u8 0, .int .u8 0, .int .u8 0, .int .u8 0, .int .u8 0, .int .u8 0, .int .u8 0, .int .u8 0, .int .u8 0, .int .u8 0, .int .u8 0, .int .u8 0, .int .u8 0, .int .u8 0, .int .u8 0, .int .u8 0, .int .u8 0, .int .u8 0, .int .u8 0] := by
  simp [keyOf, Iv, byteAt, List.range, List.range.loop]
theorem eql_key_self (n : Nat) (W : World) : (binOp .eql 23 (.agg (Iv .u8 (keyOf n))) (.agg (Iv .u8 (keyOf n)))).run Tryd.prog W = .ok (.bool true) W := by
  rw [eql_keys _ _ (keyOf_length n) (keyOf_length n)]
  simp

theorem eql_key_18 (W : World) : (binOp .eql 23 (.agg (Iv .u8 (keyOf 18))) (.agg #[.int .u8 18, .int .u8 0, .int .u8 0, .int .u8 0, .int .u8 0, .int .u8 0, .int .u8 0, .int .u8 0, .int .u8 0, .int .u8 0, .int .u8 0, .int .u8 0, .int .u8 0, .int .u8 0, .int .u8 0, .int .u8 0, .int .u8 0, .int .u8 0, .int .u8 0, .int .u8 0, .int .u8 0, .int .u8 0, .int .u8 0, .int .u8 0, .int .u8 0, .int .u8 0, .int .u8 0, .int .u8 0, .int .u8 0, .int .u8 0, .int .u8 0, .int .u8 0])).run Tryd.prog W = .ok (.bool true) W := by
  rw [← key_18]
  exact eql_key_self 18 W
theorem eql_key_1 (W : World) : (binOp .eql 23 (.agg (Iv .u8 (keyOf 1))) (.agg #[.int .u8 1, .int .u8 0, .int .u8 0, .int .u8 0, .int .u8 0, .int .u8 0, .int .u8 0, .int .u8 0, .int .u8 0, .int .u8 0, .int .u8 0, .int .u8 0, .int .u8 0, .int .u8 0, .int .u8 0, .int .u8 0, .int .u8 0, .int .u8 0, .int .u8 0, .int .u8 0, .int .u8 0, .int .u8 0, .int .u8 0, .int .u8 0, .int .u8 0, .int .u8 0, .int .u8 0, .int .u8 0, .int .u8 0, .int .u8 0, .int .u8 0, .int .u8 0])).run Tryd.prog W = .ok (.bool true) W := by
  rw [← key_1]
  exact eql_key_self 1 W

structure AwakeW (w wr : World) (k : Nat) : Prop where
  key : Blk wr w.heap.size 23 (Iv .u8 (fill 32 (fun _ => 255) k))
  b : Below w.heap.size w wr
theorem AwakeW.step {w wr : World} {k : Nat} (h : AwakeW w wr k) : AwakeW w (wr.setCell ⟨w.heap.size, k, none⟩ (.int .u8 255)) (k + 1) := by
  refine ⟨?_, h.b.setCell (by simp) _⟩
  have := h.key.set k (.int .u8 255)
  rw [Iv_set, fill_set 32 (fun _ => 255) k] at this
  exact this
theorem bytes_255 : Bytes32 (fill 32 (fun _ => 255) 32) (fun _ => 255) := ⟨by simp [fill], fun i h => by rw [fill_getD _ _ _ _ h, if_pos h]; rfl, fun i => by decide⟩


end Go.Proofs.YtmceebdaaegkeaaDoor
