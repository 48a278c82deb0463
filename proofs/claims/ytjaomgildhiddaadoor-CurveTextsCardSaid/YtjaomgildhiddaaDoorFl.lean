/- The contract of field.Invert: to the power 2^255 - 21. -/
import Derived.Test.YtjaomgildhiddaaDoorFk
namespace Go.Proofs.YtjaomgildhiddaaDoor
open Go.RowKit

theorem ones_bytes (lo hi : Nat) (hlo : lo < 256) (hhi : hi < 256) : Bytes32 ((List.range 32).map fun i => ((onesOf lo hi i : Nat) : Int)) (onesOf lo hi) :=
  ⟨by simp, fun i h => by simp [h], fun i => by unfold onesOf; split <;> (try split) <;> omega⟩
theorem invert_exp : leTo (onesOf 235 127) 32 = 57896044618658097711785492504343953926634992332820282019728792003956564819947 := by decide +kernel

set_option maxHeartbeats 4000000 in
set_option maxRecDepth 100000 in
theorem invert_any (a : Nat) (w : World) (ha : a < pp) :
    Calls Tryd.prog 47 #[El a] w fun e w' => e = .returned (El (mpow a 57896044618658097711785492504343953926634992332820282019728792003956564819947)) ∧ Below w.heap.size w w' := by
  have cO := fun W => ones_any 235 127 W
  have cP := fun W => power_any a _ (onesOf 235 127) (ones_bytes 235 127 (by decide) (by decide)) W ha
  rw [invert_exp] at cP
  generalize (List.range 32).map (fun i => ((onesOf 235 127 i : Nat) : Int)) = l at cO cP
  obtain ⟨N, hN⟩ : ∃ N, N = mpow a 57896044618658097711785492504343953926634992332820282019728792003956564819947 := ⟨_, rfl⟩
  rw [← hN] at cP ⊢
  clear hN
  obtain ⟨x0, x1, x2, x3, x4, ex⟩ : ∃ x0 x1 x2 x3 x4 : Int, El_cells a = #[.int .u64 x0, .int .u64 x1, .int .u64 x2, .int .u64 x3, .int .u64 x4] := ⟨_, _, _, _, _, rfl⟩
  obtain ⟨n0, n1, n2, n3, n4, en⟩ : ∃ x0 x1 x2 x3 x4 : Int, El_cells N = #[.int .u64 x0, .int .u64 x1, .int .u64 x2, .int .u64 x3, .int .u64 x4] := ⟨_, _, _, _, _, rfl⟩
  unfold El at cP ⊢
  rw [ex, en] at cP
  rw [ex, en]
  have CP := Lib.hid cP
  have CO := Lib.hid cO
  clear cP cO ex en
  go_enter Tryd.func47, Tryd.ntmps47
  go_wp2
  generalize hW : World.alloc (World.alloc w _) _ = V
  have HX : Blk V w.heap.size 36 #[.int .u64 x0, .int .u64 x1, .int .u64 x2, .int .u64 x3, .int .u64 x4] := hW ▸ (Blk.new w _ _).alloc _
  have HR : Blk V (w.heap.size + 1) 36 #[.int .u64 0, .int .u64 0, .int .u64 0, .int .u64 0, .int .u64 0] := hW ▸ Blk.new' (by simp) _ _
  have HB : Below w.heap.size w V := hW ▸ ((Below.refl _ _).alloc (Nat.le_refl _) _).alloc (by simp) _
  clear hW
  refine wp_region_Z (S := fun w' => Five w' w.heap.size x0 x1 x2 x3 x4) 3 (by kernel_rfl) ?_
  refine wpAnyZ_take (i := 0) (v := ?_) rfl (by kernel_rfl) (by kernel_rfl) (by kernel_rfl) (by kernel_rfl) (by kernel_rfl) (fun _ _ _ h => h) (Or.inl ⟨by rfl, ?_⟩) HX.drew.five ?_
  rotate_left
  · intro w' hw'
    obtain ⟨s1, s2, s3, s4, s5⟩ := hw'
    go_simp
    try (with_reducible rfl)
  simp only [Act.put, List.setIfInBounds_toArray]
  refine wpAnyZ_one (i := 1) (by kernel_rfl) ?_
  unfold wpOp
  go_simp
  left
  refine (CO.out _).mono ?_
  rintro e w3 ⟨rfl, hb3⟩
  have HX3 := HX.drew.below hb3 HX.drew.lt
  have HR3 := HR.drew.below hb3 HR.drew.lt
  have HB3 := (below_drew HB).trans (hb3.mono (below_drew HB).size)
  clear hb3 HX HR HB
  refine ⟨HX3.five, ?_⟩
  refine wpAnyZ_one (i := 2) (by kernel_rfl) ?_
  unfold wpOp
  unfold Key at *
  go_simp
  left
  refine (CP.out _).mono ?_
  rintro e w4 ⟨rfl, hb4⟩
  have HX4 := HX3.below hb4 HX3.lt
  have HR4 := HR3.below hb4 HR3.lt
  have HB4 := HB3.trans (hb4.mono HB3.size)
  clear hb4 HX3 HR3 HB3
  refine ⟨HX4.five, ?_⟩
  obtain ⟨t0, t1, t2, t3, t4⟩ := HR4.five
  have fr := HR4.frozen
  have v0 := fr 0; have v1 := fr 1; have v2 := fr 2; have v3 := fr 3; have v4 := fr 4
  clear fr
  refine wpAnyZ_one (fuel := 0) (i := 3) (by kernel_rfl) ?_
  unfold wpOp
  go_simp
  left
  refine wpAnyZ_done (by kernel_rfl) ?_ _
  go_wp2
  exact bodyPost_ret (results_cell_row rfl _ _ _ 36 _ (0, 0) _ rfl (HR4.set5 _ _ _ _ _) Tryd.underlying36 rfl (info_El N)) rfl ⟨rfl, below_set5 HB4 (by omega) _ _ _ _ _⟩

end Go.Proofs.YtjaomgildhiddaaDoor
