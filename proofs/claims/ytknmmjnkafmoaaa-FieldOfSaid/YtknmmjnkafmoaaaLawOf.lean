/- The law FieldOf: any bytes as a number, and its bytes; small ones; what isn't made is 0. -/
import Derived.Test.YtknmmjnkafmoaaaRk
import Derived.Test.YtknmmjnkafmoaaaLf
namespace Go.Proofs.Ytknmmjnkafmoaaa
open Go.RowKit

structure FofS (l : List Int) (g h : Nat) (w : World) : Prop where
  k : Blk w g 23 (Iv .u8 l)
  z : Blk w h 29 #[.int .u64 0, .int .u64 0, .int .u64 0, .int .u64 0, .int .u64 0]
theorem FofS.below {l : List Int} {g h : Nat} {w w1 : World} (H : FofS l g h w) (hb : Below w.heap.size w w1) : FofS l g h w1 := ⟨H.k.below hb H.k.lt, H.z.below hb H.z.lt⟩
theorem key_0 : Iv .u8 (keyOf 0) = #[.int .u8 0, .int .u8 0, .int .u8 0, .int .u8 0, .int .u8 0, .int .u8 0, .int .u8 0, .int .u8 0, .int .u8 0, .int .u8 0, .int .u8 0, .int .u8 0, .int .u8 0, .int .u8 0, .int .u8 0, .int .u8 0, .int .u8 0, .int .u8 0, .int .u8 0, .int .u8 0, .int .u8 0, .int .u8 0, .int .u8 0, .int .u8 0, .int .u8 0, .int .u8 0, .int .u8 0, .int .u8 0, .int .u8 0, .int .u8 0, .int .u8 0, .int .u8 0] := by
  simp [keyOf, Iv, byteAt, List.range, List.range.loop]

set_option maxHeartbeats 4000000 in
set_option maxRecDepth 100000 in
theorem fieldof_any (l : List Int) (f : Nat → Nat) (hl : Bytes32 l f) (n : Nat) (hn : n < 4294967296) (w : World) :
    Calls Try.prog 3 #[Key l, .int .u32 n] w fun e w' => e = .returned (.bool true) ∧ Below w.heap.size w w' := by
  have cOf := fun W => of_any l f hl W
  have cPl := fun W => place_any l f hl W
  unfold RetF at cPl
  obtain ⟨X, hX⟩ : ∃ X, X = leTo f 32 % 57896044618658097711785492504343953926634992332820282019728792003956564819968 % pp := ⟨_, rfl⟩
  rw [← hX] at cOf
  simp only [← hX] at cPl
  have hXlt : X < pp := hX ▸ Nat.mod_lt _ pp_pos
  have hnlt : n < pp := by rw [pp_eq]; omega
  clear hX
  have cB := fun W => bytes_any X W hXlt
  have cKx := fun g m c f W (h : Sl W g m f) (hv : lv f m = X) => hv ▸ key_any g m c f W h
  have cS := fun W => small_any n W hn
  have cBn := fun W => bytes_any n W hnlt
  have cN := fun W => num_any n W hn
  unfold RetSl at cN
  have cKn := fun g c W (h : Sl W g 2 (numF n)) => (numF_num n hn) ▸ key_any g 2 c (numF n) W h
  have cZ := fun W => zero_any 0 W
  have cB0 := fun W => bytes_any 0 W pp_pos
  have cA := fun W => add_any 0 n W pp_pos hnlt
  rw [Nat.zero_add, Nat.mod_eq_of_lt hnlt] at cA
  have eX := eql_key_self X
  have en := eql_key_self n
  have e0 := eql_key_self 0
  have hE0 : El 0 = .agg #[.int .u64 0, .int .u64 0, .int .u64 0, .int .u64 0, .int .u64 0] := rfl
  rw [hE0] at cZ cB0 cA
  simp only [decide_true] at cZ
  unfold Key at *
  unfold El at cOf cB cS cBn cA
  rw [key_0] at cB0 e0
  generalize El_cells X = ex at *
  generalize El_cells n = es at *
  generalize Iv .u8 (keyOf X) = kx at *
  generalize Iv .u8 (keyOf n) = kn at *
  have COf := Lib.hid cOf; have CPl := Lib.hid cPl; have CB := Lib.hid cB; have CKx := Lib.hid cKx; have CS := Lib.hid cS; have CBn := Lib.hid cBn; have CN := Lib.hid cN; have CKn := Lib.hid cKn; have CZ := Lib.hid cZ; have CB0 := Lib.hid cB0; have CA := Lib.hid cA
  clear cOf cPl cB cKx cS cBn cN cKn cZ cB0 cA hE0
  go_enter Try.func3, Try.ntmps3
  go_wp2_with fail
  refine (awake_any _).mono ?_
  rintro e w1 ⟨rfl, b1⟩
  have HK : Blk w1 w.heap.size 23 (Iv .u8 l) := Blk.below (Blk.new w _ _) b1 (by simp)
  have HB1 : Below w.heap.size w w1 := ((Below.refl w.heap.size w).alloc (Nat.le_refl _) _).trans (b1.mono (by simp))
  clear b1
  go_wp2_with fail
  have hS0 : FofS l w.heap.size w1.heap.size (w1.alloc (.cells #[.int .u64 0, .int .u64 0, .int .u64 0, .int .u64 0, .int .u64 0] 29)).drew := ⟨HK.alloc _, Blk.new _ _ _⟩
  have hB0 : Below w.heap.size w (w1.alloc (.cells #[.int .u64 0, .int .u64 0, .int .u64 0, .int .u64 0, .int .u64 0] 29)).drew := below_drew (HB1.alloc HB1.size _)
  clear HK HB1
  refine wp_region_Z (S := FofS l w.heap.size w1.heap.size) 37 (by kernel_rfl) ?_
  refine wpAnyZ_takeL 0 (v := .agg (Iv .u8 l)) rfl (by kernel_rfl) (by kernel_rfl) (by kernel_rfl) (by kernel_rfl) (by kernel_rfl) (fun _ _ _ h => h) (yieldsIf_row_wanted rfl 23 _ rfl w.heap.size rfl 23 _ _ (fun w' h => h.1) Try.underlying23 rfl (info_key _ hl.len)) hS0 ?_
  simp only [Act.put, List.setIfInBounds_toArray, List.set_cons_zero, List.set_cons_succ]
  refine wpAnyZ_takeL 3 (v := .agg (Iv .u8 l)) rfl (by kernel_rfl) (by kernel_rfl) (by kernel_rfl) (by kernel_rfl) (by kernel_rfl) (fun _ _ _ h => h) (yieldsIf_row_wanted rfl 23 _ rfl w.heap.size rfl 23 _ _ (fun w' h => h.1) Try.underlying23 rfl (info_key _ hl.len)) hS0 ?_
  simp only [Act.put, List.setIfInBounds_toArray, List.set_cons_zero, List.set_cons_succ]
  refine wpAnyZ_one (i := 1) (by kernel_rfl) ?_
  unfold wpOp
  go_simp
  left
  refine (COf.out _).mono ?_
  rintro e v1 ⟨rfl, b1⟩
  have hB1 := hB0.trans (b1.mono hB0.size)
  have hS1 := hS0.below b1
  clear b1 hS0 hB0
  refine ⟨hS1, ?_⟩
  refine wpAnyZ_one (i := 2) (by kernel_rfl) ?_
  unfold wpOp
  go_simp
  left
  refine (CB.out _).mono ?_
  rintro e v2 ⟨rfl, b2⟩
  have hB2 := hB1.trans (b2.mono hB1.size)
  have hS2 := hS1.below b2
  clear b2 hS1 hB1
  refine ⟨hS2, ?_⟩
  refine wpAnyZ_one (i := 4) (by kernel_rfl) ?_
  unfold wpOp
  go_simp
  left
  refine (CPl.out _).mono ?_
  rintro e v3 ⟨g3, n3, c3, f3, rfl, SL, vl, hn3, b3⟩
  have hB3 := hB2.trans (b3.mono hB2.size)
  have hS3 := hS2.below b3
  have VL := Lib.hid vl
  clear vl
  unfold SlV
  clear b3 hS2 hB2
  refine ⟨hS3, ?_⟩
  refine wpAnyZ_one (i := 5) (by kernel_rfl) ?_
  unfold wpOp
  go_simp
  left
  refine (CKx.out _ _ _ _ _ SL VL.out).mono ?_
  rintro e v4 ⟨rfl, b4⟩
  have hB4 := hB3.trans (b4.mono hB3.size)
  have hS4 := hS3.below b4
  clear b4 hS3 hB3
  refine ⟨hS4, ?_⟩
  refine wpAnyZ_takeL 6 (v := ?_) rfl (by kernel_rfl) (by kernel_rfl) (by kernel_rfl) (by kernel_rfl) (by kernel_rfl) (fun _ _ _ h => h) (Or.inl ⟨by rfl, ?_⟩) hS4 ?_
  rotate_left
  · intro w' hw'
    go_simp
    try (with_reducible rfl)
  simp only [Act.put, List.setIfInBounds_toArray, List.set_cons_zero, List.set_cons_succ]
  refine wpAnyZ_takeL 7 (v := ?_) rfl (by kernel_rfl) (by kernel_rfl) (by kernel_rfl) (by kernel_rfl) (by kernel_rfl) (fun _ _ _ h => h) (Or.inl ⟨by rfl, ?_⟩) hS4 ?_
  rotate_left
  · intro w' hw'
    go_simp
    try (with_reducible rfl)
  simp only [Act.put, List.setIfInBounds_toArray, List.set_cons_zero, List.set_cons_succ]
  refine wpAnyZ_takeL 8 (v := ?_) rfl (by kernel_rfl) (by kernel_rfl) (by kernel_rfl) (by kernel_rfl) (by kernel_rfl) (fun _ _ _ h => h) (Or.inl ⟨by rfl, ?_⟩) hS4 ?_
  rotate_left
  · intro w' hw'
    go_simp
    try (with_reducible rfl)
  simp only [Act.put, List.setIfInBounds_toArray, List.set_cons_zero, List.set_cons_succ]
  refine wpAnyZ_takeL 11 (v := ?_) rfl (by kernel_rfl) (by kernel_rfl) (by kernel_rfl) (by kernel_rfl) (by kernel_rfl) (fun _ _ _ h => h) (Or.inl ⟨by rfl, ?_⟩) hS4 ?_
  rotate_left
  · intro w' hw'
    go_simp
    try (with_reducible rfl)
  simp only [Act.put, List.setIfInBounds_toArray, List.set_cons_zero, List.set_cons_succ]
  refine wpAnyZ_one (i := 9) (by kernel_rfl) ?_
  unfold wpOp
  go_simp
  left
  refine (CS.out _).mono ?_
  rintro e v5 ⟨rfl, b5⟩
  have hB5 := hB4.trans (b5.mono hB4.size)
  have hS5 := hS4.below b5
  clear b5 hS4 hB4
  refine ⟨hS5, ?_⟩
  refine wpAnyZ_one (i := 10) (by kernel_rfl) ?_
  unfold wpOp
  go_simp
  left
  refine (CBn.out _).mono ?_
  rintro e v6 ⟨rfl, b6⟩
  have hB6 := hB5.trans (b6.mono hB5.size)
  have hS6 := hS5.below b6
  clear b6 hS5 hB5
  refine ⟨hS6, ?_⟩
  refine wpAnyZ_one (i := 12) (by kernel_rfl) ?_
  unfold wpOp
  go_simp
  left
  refine (CN.out _).mono ?_
  rintro e v7 ⟨g7, c7, rfl, SL2, _, b7⟩
  have hB7 := hB6.trans (b7.mono hB6.size)
  have hS7 := hS6.below b7
  unfold SlV
  clear b7 hS6 hB6
  refine ⟨hS7, ?_⟩
  refine wpAnyZ_one (i := 13) (by kernel_rfl) ?_
  unfold wpOp
  go_simp
  left
  refine (CKn.out _ _ _ SL2).mono ?_
  rintro e v8 ⟨rfl, b8⟩
  have hB8 := hB7.trans (b8.mono hB7.size)
  have hS8 := hS7.below b8
  clear b8 hS7 hB7
  refine ⟨hS8, ?_⟩
  refine wpAnyZ_takeL 14 (v := ?_) rfl (by kernel_rfl) (by kernel_rfl) (by kernel_rfl) (by kernel_rfl) (by kernel_rfl) (fun _ _ _ h => h) (Or.inl ⟨by rfl, ?_⟩) hS8 ?_
  rotate_left
  · intro w' hw'
    go_simp
    try (with_reducible rfl)
  simp only [Act.put, List.setIfInBounds_toArray, List.set_cons_zero, List.set_cons_succ]
  refine wpAnyZ_takeL 15 (v := ?_) rfl (by kernel_rfl) (by kernel_rfl) (by kernel_rfl) (by kernel_rfl) (by kernel_rfl) (fun _ _ _ h => h) (Or.inl ⟨by rfl, ?_⟩) hS8 ?_
  rotate_left
  · intro w' hw'
    go_simp
    try (with_reducible rfl)
  simp only [Act.put, List.setIfInBounds_toArray, List.set_cons_zero, List.set_cons_succ]
  refine wpAnyZ_takeL 16 (v := ?_) rfl (by kernel_rfl) (by kernel_rfl) (by kernel_rfl) (by kernel_rfl) (by kernel_rfl) (fun _ _ _ h => h) (Or.inl ⟨by rfl, ?_⟩) hS8 ?_
  rotate_left
  · intro w' hw'
    go_simp
    try (with_reducible rfl)
  simp only [Act.put, List.setIfInBounds_toArray, List.set_cons_zero, List.set_cons_succ]
  refine wpAnyZ_takeL 17 (v := .agg #[.int .u64 0, .int .u64 0, .int .u64 0, .int .u64 0, .int .u64 0]) rfl (by kernel_rfl) (by kernel_rfl) (by kernel_rfl) (by kernel_rfl) (by kernel_rfl) (fun _ _ _ h => h) (yieldsIf_row_wanted rfl 29 _ rfl w1.heap.size rfl 29 _ _ (fun w' h => h.2) Try.underlying29 rfl rfl) hS8 ?_
  simp only [Act.put, List.setIfInBounds_toArray, List.set_cons_zero, List.set_cons_succ]
  refine wpAnyZ_one (i := 18) (by kernel_rfl) ?_
  unfold wpOp
  go_simp
  left
  refine (CZ.out _).mono ?_
  rintro e v9 ⟨rfl, b9⟩
  have hB9 := hB8.trans (b9.mono hB8.size)
  have hS9 := hS8.below b9
  clear b9 hS8 hB8
  refine ⟨hS9, ?_⟩
  refine wpAnyZ_takeL 19 (v := ?_) rfl (by kernel_rfl) (by kernel_rfl) (by kernel_rfl) (by kernel_rfl) (by kernel_rfl) (fun _ _ _ h => h) (Or.inl ⟨by rfl, ?_⟩) hS9 ?_
  rotate_left
  · intro w' hw'
    go_simp
    try (with_reducible rfl)
  simp only [Act.put, List.setIfInBounds_toArray, List.set_cons_zero, List.set_cons_succ]
  refine wpAnyZ_takeL 20 (v := ?_) rfl (by kernel_rfl) (by kernel_rfl) (by kernel_rfl) (by kernel_rfl) (by kernel_rfl) (fun _ _ _ h => h) (Or.inl ⟨by rfl, ?_⟩) hS9 ?_
  rotate_left
  · intro w' hw'
    go_simp
    try (with_reducible rfl)
  simp only [Act.put, List.setIfInBounds_toArray, List.set_cons_zero, List.set_cons_succ]
  refine wpAnyZ_takeL 21 (v := .agg #[.int .u64 0, .int .u64 0, .int .u64 0, .int .u64 0, .int .u64 0]) rfl (by kernel_rfl) (by kernel_rfl) (by kernel_rfl) (by kernel_rfl) (by kernel_rfl) (fun _ _ _ h => h) (yieldsIf_row_wanted rfl 29 _ rfl w1.heap.size rfl 29 _ _ (fun w' h => h.2) Try.underlying29 rfl rfl) hS9 ?_
  simp only [Act.put, List.setIfInBounds_toArray, List.set_cons_zero, List.set_cons_succ]
  refine wpAnyZ_takeL 23 (v := ?_) rfl (by kernel_rfl) (by kernel_rfl) (by kernel_rfl) (by kernel_rfl) (by kernel_rfl) (fun _ _ _ h => h) (Or.inl ⟨by rfl, ?_⟩) hS9 ?_
  rotate_left
  · intro w' hw'
    go_simp
    try (with_reducible rfl)
  simp only [Act.put, List.setIfInBounds_toArray, List.set_cons_zero, List.set_cons_succ]
  refine wpAnyZ_one (i := 22) (by kernel_rfl) ?_
  unfold wpOp
  go_simp
  left
  refine (CB0.out _).mono ?_
  rintro e v10 ⟨rfl, b10⟩
  have hB10 := hB9.trans (b10.mono hB9.size)
  have hS10 := hS9.below b10
  clear b10 hS9 hB9
  refine ⟨hS10, ?_⟩
  refine wpAnyZ_takeL 24 (v := ?_) rfl (by kernel_rfl) (by kernel_rfl) (by kernel_rfl) (by kernel_rfl) (by kernel_rfl) (fun _ _ _ h => h) (Or.inl ⟨by rfl, ?_⟩) hS10 ?_
  rotate_left
  · intro w' hw'
    go_simp
    try (with_reducible rfl)
  simp only [Act.put, List.setIfInBounds_toArray, List.set_cons_zero, List.set_cons_succ]
  refine wpAnyZ_takeL 25 (v := ?_) rfl (by kernel_rfl) (by kernel_rfl) (by kernel_rfl) (by kernel_rfl) (by kernel_rfl) (fun _ _ _ h => h) (Or.inl ⟨by rfl, ?_⟩) hS10 ?_
  rotate_left
  · intro w' hw'
    go_simp
    try (with_reducible rfl)
  simp only [Act.put, List.setIfInBounds_toArray, List.set_cons_zero, List.set_cons_succ]
  refine wpAnyZ_takeL 26 (v := ?_) rfl (by kernel_rfl) (by kernel_rfl) (by kernel_rfl) (by kernel_rfl) (by kernel_rfl) (fun _ _ _ h => h) (Or.inl ⟨by rfl, ?_⟩) hS10 ?_
  rotate_left
  · intro w' hw'
    go_simp
    try (with_reducible rfl)
  simp only [Act.put, List.setIfInBounds_toArray, List.set_cons_zero, List.set_cons_succ]
  refine wpAnyZ_takeL 27 (v := .agg #[.int .u64 0, .int .u64 0, .int .u64 0, .int .u64 0, .int .u64 0]) rfl (by kernel_rfl) (by kernel_rfl) (by kernel_rfl) (by kernel_rfl) (by kernel_rfl) (fun _ _ _ h => h) (yieldsIf_row_wanted rfl 29 _ rfl w1.heap.size rfl 29 _ _ (fun w' h => h.2) Try.underlying29 rfl rfl) hS10 ?_
  simp only [Act.put, List.setIfInBounds_toArray, List.set_cons_zero, List.set_cons_succ]
  refine wpAnyZ_takeL 28 (v := ?_) rfl (by kernel_rfl) (by kernel_rfl) (by kernel_rfl) (by kernel_rfl) (by kernel_rfl) (fun _ _ _ h => h) (Or.inl ⟨by rfl, ?_⟩) hS10 ?_
  rotate_left
  · intro w' hw'
    go_simp
    try (with_reducible rfl)
  simp only [Act.put, List.setIfInBounds_toArray, List.set_cons_zero, List.set_cons_succ]
  refine wpAnyZ_takeL 32 (v := ?_) rfl (by kernel_rfl) (by kernel_rfl) (by kernel_rfl) (by kernel_rfl) (by kernel_rfl) (fun _ _ _ h => h) (Or.inl ⟨by rfl, ?_⟩) hS10 ?_
  rotate_left
  · intro w' hw'
    go_simp
    try (with_reducible rfl)
  simp only [Act.put, List.setIfInBounds_toArray, List.set_cons_zero, List.set_cons_succ]
  refine wpAnyZ_one (i := 29) (by kernel_rfl) ?_
  unfold wpOp
  go_simp
  left
  refine (CS.out _).mono ?_
  rintro e v11 ⟨rfl, b11⟩
  have hB11 := hB10.trans (b11.mono hB10.size)
  have hS11 := hS10.below b11
  clear b11 hS10 hB10
  refine ⟨hS11, ?_⟩
  refine wpAnyZ_one (i := 30) (by kernel_rfl) ?_
  unfold wpOp
  go_simp
  left
  refine (CA.out _).mono ?_
  rintro e v12 ⟨rfl, b12⟩
  have hB12 := hB11.trans (b12.mono hB11.size)
  have hS12 := hS11.below b12
  clear b12 hS11 hB11
  refine ⟨hS12, ?_⟩
  refine wpAnyZ_one (i := 31) (by kernel_rfl) ?_
  unfold wpOp
  go_simp
  left
  refine (CBn.out _).mono ?_
  rintro e v13 ⟨rfl, b13⟩
  have hB13 := hB12.trans (b13.mono hB12.size)
  have hS13 := hS12.below b13
  clear b13 hS12 hB12
  refine ⟨hS13, ?_⟩
  refine wpAnyZ_one (i := 33) (by kernel_rfl) ?_
  unfold wpOp
  go_simp
  left
  refine (CN.out _).mono ?_
  rintro e v14 ⟨g14, c14, rfl, SL3, _, b14⟩
  have hB14 := hB13.trans (b14.mono hB13.size)
  have hS14 := hS13.below b14
  unfold SlV
  clear b14 hS13 hB13
  refine ⟨hS14, ?_⟩
  refine wpAnyZ_one (i := 34) (by kernel_rfl) ?_
  unfold wpOp
  go_simp
  left
  refine (CKn.out _ _ _ SL3).mono ?_
  rintro e v15 ⟨rfl, b15⟩
  have hB15 := hB14.trans (b15.mono hB14.size)
  have hS15 := hS14.below b15
  clear b15 hS14 hB14
  refine ⟨hS15, ?_⟩
  refine wpAnyZ_takeL 35 (v := ?_) rfl (by kernel_rfl) (by kernel_rfl) (by kernel_rfl) (by kernel_rfl) (by kernel_rfl) (fun _ _ _ h => h) (Or.inl ⟨by rfl, ?_⟩) hS15 ?_
  rotate_left
  · intro w' hw'
    go_simp
    try (with_reducible rfl)
  simp only [Act.put, List.setIfInBounds_toArray, List.set_cons_zero, List.set_cons_succ]
  refine wpAnyZ_takeL 36 (v := ?_) rfl (by kernel_rfl) (by kernel_rfl) (by kernel_rfl) (by kernel_rfl) (by kernel_rfl) (fun _ _ _ h => h) (Or.inl ⟨by rfl, ?_⟩) hS15 ?_
  rotate_left
  · intro w' hw'
    go_simp
    try (with_reducible rfl)
  simp only [Act.put, List.setIfInBounds_toArray, List.set_cons_zero, List.set_cons_succ]
  refine wpAnyZ_one (i := 37) (by kernel_rfl) ?_
  unfold wpOp
  go_simp
  left
  refine wpAnyZ_done (by kernel_rfl) ?_ _
  go_wp2
  go_ret
  exact ⟨rfl, hB15⟩
end Go.Proofs.Ytknmmjnkafmoaaa
