/- The reference's sum: the words added (loop 8); the sum's bytes (loop 9). -/
import Derived.Test.YtdmhngkedgkndaaDoorKQh
namespace Go.Proofs.YtdmhngkedgkndaaDoor
open Go.RowKit
def kbaseA (pb : Option Addr) (n cb gr g3 c3 gh ch : Nat) (mv : Value) (at_ : Nat) : List (Nat × Value) := [(0, .slice pb n cb), (1, .int .i64 32), (2, .slice (some ⟨gr, 0, none⟩) 12 12), (7, .int .i64 4), (8, .int .i64 64), (9, .slice (some ⟨g3, 0, none⟩) 64 c3), (10, .slice (some ⟨gh, 0, none⟩) 8 ch), (13, mv), (15, .int .i64 (at_ : Int))]
structure AW (w0 : World) (gh gv : Nat) (f g : Nat → Nat) (k : Nat) (w : World) : Prop where
  h : RF w gh 8 (plus8 f g k)
  v : RF w gv 8 g
  b : w0.grownBy w (some gh)
theorem AW.drew {w0 : World} {gh gv : Nat} {f g : Nat → Nat} {k : Nat} {w : World} (h : AW w0 gh gv f g k w) : AW w0 gh gv f g k w.drew := ⟨RQ.drew h.h, RQ.drew h.v, ⟨h.b.os, h.b.tape, h.b.output, h.b.size, h.b.block⟩⟩
set_option maxHeartbeats 4000000 in
set_option maxRecDepth 100000 in
theorem loop8_any (w0 : World) (f g : Nat → Nat) (lf : ∀ i, i < 8 → f i < 4294967296) (lg : ∀ i, i < 8 → g i < 4294967296) (pb : Option Addr) (n cb gr g3 c3 gh ch at_ gv cv : Nat) (mv : Value) (hne : gv ≠ gh) (_hch : 8 ≤ ch) (_hcv : 8 ≤ cv)
    {Q : Exit → Act → World → Prop} (hQ : ∀ c a d v w, Q (.panic c) (Act.put a d v) w → Q (.panic c) a w) (a : Act) (h : Has 380 ((29, .int .i64 0) :: (23, .slice (some ⟨gv, 0, none⟩) 8 cv) :: kbaseA pb n cb gr g3 c3 gh ch mv at_) a) (H0 : RF w0 gh 8 f) (V0 : RF w0 gv 8 g)
    (hexit : ∀ a' w', Has 380 (kbaseA pb n cb gr g3 c3 gh ch mv at_) a' → RF w' gh 8 (fun i => (f i + g i) % 4294967296) → w0.grownBy w' (some gh) → Q (.exit 16) a' w') : Code.wp Tryd.prog (.loop (sumLoop 8)) Q a w0 := by
  refine wp_loop (fun a' w' => ∃ (k : Nat), k ≤ 8 ∧ Has 380 ((29, .int .i64 (k : Int)) :: (23, .slice (some ⟨gv, 0, none⟩) 8 cv) :: kbaseA pb n cb gr g3 c3 gh ch mv at_) a' ∧ AW w0 gh gv f g k w') (fun a' _ => 8 - (intOf (a'.tmps.getD 29 undef)).toNat) ?_ ?_
  · exact ⟨0, by omega, h, (plus8_zero f g).symm ▸ H0, V0, ⟨rfl, rfl, rfl, Nat.le_refl _, fun _ _ _ => rfl⟩⟩
  clear h a H0 V0
  rintro a w ⟨k, hk, h, hL⟩
  have hm : a.tmps.getD 29 undef = .int .i64 (k : Int) := h.val 29 _ rfl
  generalize a.tmps.getD 29 undef = x at hm ⊢
  subst hm
  conv => arg 2; whnf
  refine wp_seq (wp_seq ?_)
  refine wp_region_seq ?_
  by_cases hlt : k < 8
  · have l0 : (k : Int) < 8 := by omega
    refine seqM h 337 29 rfl rfl rfl rfl rfl ?_
    clear h
    intro a h
    refine seqH h 338 (Value.bool true) rfl rfl (Or.inl ⟨rfl, fun w' hw' => by
        subst hw'
        have e337 : a.eval (.tmp 337) = _ := h.ev 337 rfl
        simp only [execOp, e337]
        go_simp⟩) ?_
    clear h
    intro a h
    refine wpSeq_nil ?_
    show Code.wp _ _ _ _ _
    refine wp_cond (t := true) (h.ev 338 rfl) ?_
    refine wp_skip ?_
    show Code.wp _ _ _ _ _
    refine wp_seq (wp_block ?_)
    refine wp_region_Z (S := AW w0 gh gv f g k) 14 (by kernel_rfl) ?_
    have hS := hL.drew
    clear hL
    generalize w.drew = V at hS ⊢
    obtain ⟨X, hX⟩ : ∃ X, X = f k := ⟨_, rfl⟩
    obtain ⟨Y, hY⟩ : ∃ X, X = g k := ⟨_, rfl⟩
    have lX : X < 4294967296 := by rw [hX]; exact lf k hlt
    have lY : Y < 4294967296 := by rw [hY]; exact lg k hlt
    have cx : ∀ w', AW w0 gh gv f g k w' → w'.cell? ⟨gh, k, none⟩ = some (.int .u64 (X : Int)) := fun w' hw => by rw [RF.cell hw.h k hlt, hX, show plus8 f g k k = f k from if_neg (by omega)]
    have cy : ∀ w', AW w0 gh gv f g k w' → w'.cell? ⟨gv, k, none⟩ = some (.int .u64 (Y : Int)) := fun w' hw => by rw [RF.cell hw.v k hlt, hY]
    have CX := Lib.hid cx
    have CY := Lib.hid cy
    have HX := Lib.hid hX
    have HY := Lib.hid hY
    clear cx cy hX hY
    have s0 : (0 : Int) ≤ (k : Int) := by omega
    have t1 : IntKind.u64.wrap ((X : Int) + (Y : Int)) = (X : Int) + (Y : Int) := by rw [IntKind.wrap_u64]; omega
    refine zanyM 0 h 341 10 rfl rfl rfl rfl rfl rfl (by kernel_rfl) (by kernel_rfl) (by kernel_rfl) (by kernel_rfl) (by kernel_rfl) (fun c a w h => hQ _ _ _ _ _ h) hS ?_
    clear h
    intro a h
    refine zanyM 1 h 342 29 rfl rfl rfl rfl rfl rfl (by kernel_rfl) (by kernel_rfl) (by kernel_rfl) (by kernel_rfl) (by kernel_rfl) (fun c a w h => hQ _ _ _ _ _ h) hS ?_
    clear h
    intro a h
    refine zanyM 2 h 343 10 rfl rfl rfl rfl rfl rfl (by kernel_rfl) (by kernel_rfl) (by kernel_rfl) (by kernel_rfl) (by kernel_rfl) (fun c a w h => hQ _ _ _ _ _ h) hS ?_
    clear h
    intro a h
    refine zanyM 3 h 344 29 rfl rfl rfl rfl rfl rfl (by kernel_rfl) (by kernel_rfl) (by kernel_rfl) (by kernel_rfl) (by kernel_rfl) (fun c a w h => hQ _ _ _ _ _ h) hS ?_
    clear h
    intro a h
    refine zanyH 4 h 345 (Value.pointer (some ⟨gh, k, none⟩)) rfl rfl rfl (by kernel_rfl) (by kernel_rfl) (by kernel_rfl) (by kernel_rfl) (by kernel_rfl) (fun c a w h => hQ _ _ _ _ _ h) (Or.inl ⟨rfl, fun w' hw' => by
        have e343 : a.eval (.tmp 343) = _ := h.ev 343 rfl
        have e344 : a.eval (.tmp 344) = _ := h.ev 344 rfl
        simp only [execOp, e343, e344]
        go_simp⟩) hS ?_
    clear h
    intro a h
    refine zanyH 5 h 346 (Value.int .u64 (X : Int)) rfl rfl rfl (by kernel_rfl) (by kernel_rfl) (by kernel_rfl) (by kernel_rfl) (by kernel_rfl) (fun c a w h => hQ _ _ _ _ _ h) (Or.inl ⟨rfl, fun w' hw' => by
        have e345 : a.eval (.tmp 345) = _ := h.ev 345 rfl
        have c1 := CX.out w' hw'
        simp only [execOp, e345]
        go_simp⟩) hS ?_
    clear h
    intro a h
    refine zanyM 6 h 347 23 rfl rfl rfl rfl rfl rfl (by kernel_rfl) (by kernel_rfl) (by kernel_rfl) (by kernel_rfl) (by kernel_rfl) (fun c a w h => hQ _ _ _ _ _ h) hS ?_
    clear h
    intro a h
    refine zanyM 7 h 348 29 rfl rfl rfl rfl rfl rfl (by kernel_rfl) (by kernel_rfl) (by kernel_rfl) (by kernel_rfl) (by kernel_rfl) (fun c a w h => hQ _ _ _ _ _ h) hS ?_
    clear h
    intro a h
    refine zanyH 8 h 349 (Value.pointer (some ⟨gv, k, none⟩)) rfl rfl rfl (by kernel_rfl) (by kernel_rfl) (by kernel_rfl) (by kernel_rfl) (by kernel_rfl) (fun c a w h => hQ _ _ _ _ _ h) (Or.inl ⟨rfl, fun w' hw' => by
        have e347 : a.eval (.tmp 347) = _ := h.ev 347 rfl
        have e348 : a.eval (.tmp 348) = _ := h.ev 348 rfl
        simp only [execOp, e347, e348]
        go_simp⟩) hS ?_
    clear h
    intro a h
    refine zanyH 9 h 350 (Value.int .u64 (Y : Int)) rfl rfl rfl (by kernel_rfl) (by kernel_rfl) (by kernel_rfl) (by kernel_rfl) (by kernel_rfl) (fun c a w h => hQ _ _ _ _ _ h) (Or.inl ⟨rfl, fun w' hw' => by
        have e349 : a.eval (.tmp 349) = _ := h.ev 349 rfl
        have c1 := CY.out w' hw'
        simp only [execOp, e349]
        go_simp⟩) hS ?_
    clear h
    intro a h
    refine zanyH 10 h 351 (Value.int .u64 ((X : Int) + (Y : Int))) rfl rfl rfl (by kernel_rfl) (by kernel_rfl) (by kernel_rfl) (by kernel_rfl) (by kernel_rfl) (fun c a w h => hQ _ _ _ _ _ h) (Or.inl ⟨rfl, fun w' hw' => by
        have e346 : a.eval (.tmp 346) = _ := h.ev 346 rfl
        have e350 : a.eval (.tmp 350) = _ := h.ev 350 rfl
        simp only [execOp, e346, e350]
        go_simp⟩) hS ?_
    clear h
    intro a h
    refine zanyM 11 h 352 1 rfl rfl rfl rfl rfl rfl (by kernel_rfl) (by kernel_rfl) (by kernel_rfl) (by kernel_rfl) (by kernel_rfl) (fun c a w h => hQ _ _ _ _ _ h) hS ?_
    clear h
    intro a h
    refine zanyW 12 h 353 rfl rfl rfl rfl (by kernel_rfl) (fun v w' => v = .int .u64 (((X + Y) % 4294967296 : Nat) : Int) ∧ V = w') (fun K hK => wp_call_v 33 _ _ _ Tryd.func33 (by kernel_rfl) (by kernel_rfl) rfl 353 rfl #[.int .u64 ((X + Y : Nat) : Int), .int .i64 32] (by simp [h.ev 351 rfl, h.ev 352 rfl]) _ ((cut32_any (X + Y) V (by omega)).mono fun e w' h => ⟨_, h.1, rfl, h.2⟩) hK) ?_
    rintro _ _ ⟨rfl, rfl⟩
    refine ⟨hS, ?_⟩
    clear h
    intro a h
    refine zanyH 13 h 354 (Value.pointer (some ⟨gh, k, none⟩)) rfl rfl rfl (by kernel_rfl) (by kernel_rfl) (by kernel_rfl) (by kernel_rfl) (by kernel_rfl) (fun c a w h => hQ _ _ _ _ _ h) (Or.inl ⟨rfl, fun w' hw' => by
        have e341 : a.eval (.tmp 341) = _ := h.ev 341 rfl
        have e342 : a.eval (.tmp 342) = _ := h.ev 342 rfl
        simp only [execOp, e341, e342]
        go_simp⟩) hS ?_
    clear h
    intro a h
    have fz := RQ.fz hS.h k
    have c1 := RF.cell hS.h k hlt
    refine zcell 14 h rfl rfl (by kernel_rfl) (by kernel_rfl) _ (fun K hK => wp_store_int _ _ _ rfl rfl (by kernel_rfl) gh k _ _ (h.ev 354 rfl) (h.ev 353 rfl) _ c1 fz hK) ?_
    refine wpAnyZ_done (by kernel_rfl) ?_ _
    have F2 := RF.set hS.h k (plus8 f g (k + 1)) hlt (fun i hi => by unfold plus8; by_cases hik : i < k <;> simp [hik] <;> omega)
    rw [show plus8 f g (k + 1) k = (X + Y) % 4294967296 from by rw [HX.out, HY.out]; exact if_pos (by omega)] at F2
    have L2 : AW w0 gh gv f g (k + 1) (V.setCell ⟨gh, k, none⟩ (.int .u64 (((X + Y) % 4294967296 : Nat) : Int))) := ⟨F2, RQ.far hS.v hne _, ⟨hS.b.os, hS.b.tape, hS.b.output, by simpa [World.setCell] using hS.b.size, fun i hi hne => (heap_setCell_other V _ i _ (fun e => hne (by rw [e]))).trans (hS.b.block i hi hne)⟩⟩
    generalize World.setCell V _ _ = U at L2 ⊢
    clear hS fz c1 F2 t1 CX CY
    show Code.wp _ _ _ _ _
    refine wp_region_seq ?_
    have ew : IntKind.i64.wrap ((k : Int) + 1) = (k : Int) + 1 := by rw [IntKind.wrap_i64]; omega
    refine seqM h 339 29 rfl rfl rfl rfl rfl ?_
    clear h
    intro a h
    refine seqH h 340 (Value.int .i64 ((k : Int) + 1)) rfl rfl (Or.inl ⟨rfl, fun w' hw' => by
        subst hw'
        have e339 : a.eval (.tmp 339) = _ := h.ev 339 rfl
        simp only [execOp, e339]
        go_simp⟩) ?_
    clear h
    intro a h
    refine seqA h 29 340 rfl rfl rfl rfl rfl ?_
    clear h
    intro a h
    refine wpSeq_nil ?_
    refine ⟨⟨k + 1, by omega, h.trim _ ?_, L2⟩, ?_⟩
    · intro p hp
      simp only [kbaseA, List.mem_cons, List.not_mem_nil, or_false] at hp
      rcases hp with rfl | rfl | rfl | rfl | rfl | rfl | rfl | rfl | rfl | rfl | rfl <;> rfl
    · have hm2 : a.tmps.getD 29 undef = .int .i64 ((k + 1 : Nat) : Int) := h.val 29 _ rfl
      rw [hm2]
      simp only [intOf]
      omega
  · have l0 : ¬ ((k : Int) < 8) := by omega
    obtain rfl : k = 8 := by omega
    refine seqM h 337 29 rfl rfl rfl rfl rfl ?_
    clear h
    intro a h
    refine seqH h 338 (Value.bool false) rfl rfl (Or.inl ⟨rfl, fun w' hw' => by
        subst hw'
        have e337 : a.eval (.tmp 337) = _ := h.ev 337 rfl
        simp only [execOp, e337]
        go_simp⟩) ?_
    clear h
    intro a h
    refine wpSeq_nil ?_
    show Code.wp _ _ _ _ _
    refine wp_cond (t := false) (h.ev 338 rfl) ?_
    refine wp_exit ?_
    refine hexit _ _ (h.trim _ ?_) (hL.h.congr fun i hi => if_pos hi) hL.b
    · intro p hp
      simp only [kbaseA, List.mem_cons, List.not_mem_nil, or_false] at hp
      rcases hp with rfl | rfl | rfl | rfl | rfl | rfl | rfl | rfl | rfl <;> rfl
def baseO (gh ch : Nat) : List (Nat × Value) := [(1, .int .i64 32), (7, .int .i64 4), (10, .slice (some ⟨gh, 0, none⟩) 8 ch)]
def outK (f : Nat → Nat) (k : Nat) : List Nat := (List.range k).map (sumB f)
theorem outK_length (f : Nat → Nat) (k : Nat) : (outK f k).length = k := by simp [outK]
theorem outK_succ (f : Nat → Nat) (k : Nat) : outK f k ++ [sumB f k] = outK f (k + 1) := by simp [outK, List.range_succ]
structure OW (w0 : World) (gh : Nat) (f : Nat → Nat) (v : Value) (k : Nat) (w : World) : Prop where
  h : RF w gh 8 f
  o : OwL w0.heap.size w v (outK f k)
  b : Below w0.heap.size w0 w
theorem OW.drew {w0 : World} {gh : Nat} {f : Nat → Nat} {v : Value} {k : Nat} {w : World} (h : OW w0 gh f v k w) : OW w0 gh f v k w.drew := ⟨RQ.drew h.h, h.o, below_drew h.b⟩
set_option maxHeartbeats 4000000 in
set_option maxRecDepth 100000 in
theorem loop9_any (w0 : World) (f : Nat → Nat) (lf : ∀ i, i < 8 → f i < 4294967296) (gh ch : Nat) (_hch : 8 ≤ ch)
    {Q : Exit → Act → World → Prop} (hQ : ∀ c a d v w, Q (.panic c) (Act.put a d v) w → Q (.panic c) a w) (a : Act) (h : Has 380 ((31, .int .i64 0) :: (30, .slice none 0 0) :: baseO gh ch) a) (H0 : RF w0 gh 8 f)
    (hexit : ∀ a' w' v, Has 380 [(30, v)] a' → OwL w0.heap.size w' v (outK f 32) → Below w0.heap.size w0 w' → Q (.exit 18) a' w') : Code.wp Tryd.prog (.loop (sumLoop 9)) Q a w0 := by
  refine wp_loop (fun a' w' => ∃ (k : Nat) (v : Value), k ≤ 32 ∧ Has 380 ((31, .int .i64 (k : Int)) :: (30, v) :: baseO gh ch) a' ∧ OW w0 gh f v k w') (fun a' _ => 32 - (intOf (a'.tmps.getD 31 undef)).toNat) ?_ ?_
  · exact ⟨0, _, by omega, h, H0, OwL.nil _ _, Below.refl _ _⟩
  clear h a
  rintro a w ⟨k, v, hk, h, hL⟩
  have hm : a.tmps.getD 31 undef = .int .i64 (k : Int) := h.val 31 _ rfl
  generalize a.tmps.getD 31 undef = x at hm ⊢
  subst hm
  have w32 : IntKind.i64.wrap 32 = 32 := by rw [IntKind.wrap_i64]; rfl
  have w24 : IntKind.i64.wrap 24 = 24 := by rw [IntKind.wrap_i64]; rfl
  conv => arg 2; whnf
  refine wp_seq (wp_seq ?_)
  refine wp_region_seq ?_
  by_cases hlt : k < 32
  · have l0 : (k : Int) < 32 := by omega
    refine seqM h 355 31 rfl rfl rfl rfl rfl ?_
    clear h
    intro a h
    refine seqM h 356 7 rfl rfl rfl rfl rfl ?_
    clear h
    intro a h
    refine seqH h 357 (Value.int .i64 32) rfl rfl (Or.inl ⟨rfl, fun w' hw' => by
        subst hw'
        have e356 : a.eval (.tmp 356) = _ := h.ev 356 rfl
        simp only [execOp, e356]
        go_simp⟩) ?_
    clear h
    intro a h
    refine seqH h 358 (Value.bool true) rfl rfl (Or.inl ⟨rfl, fun w' hw' => by
        subst hw'
        have e355 : a.eval (.tmp 355) = _ := h.ev 355 rfl
        have e357 : a.eval (.tmp 357) = _ := h.ev 357 rfl
        simp only [execOp, e355, e357]
        go_simp⟩) ?_
    clear h
    intro a h
    refine wpSeq_nil ?_
    show Code.wp _ _ _ _ _
    refine wp_cond (t := true) (h.ev 358 rfl) ?_
    refine wp_skip ?_
    show Code.wp _ _ _ _ _
    refine wp_seq (wp_block ?_)
    refine wp_region_S (S := fun w' => RF w' gh 8 f ∧ Below w0.heap.size w0 w') (by kernel_rfl) ?_
    have hO := hL.drew.o
    have hS : RF w.drew gh 8 f ∧ Below w0.heap.size w0 w.drew := ⟨hL.drew.h, hL.drew.b⟩
    clear hL
    generalize w.drew = V at hS hO ⊢
    obtain ⟨X, hX⟩ : ∃ X, X = f (k / 4) := ⟨_, rfl⟩
    have lX : X < 4294967296 := by rw [hX]; exact lf _ (by omega)
    have cx : ∀ w', RF w' gh 8 f ∧ Below w0.heap.size w0 w' → w'.cell? ⟨gh, k / 4, none⟩ = some (.int .u64 (X : Int)) := fun w' hw => by rw [RF.cell hw.1 _ (by omega), hX]
    have CX := Lib.hid cx
    clear cx
    have i1 : (0 : Int) ≤ (k : Int) / 4 := by omega
    have i2 : (k : Int) / 4 < 8 := by omega
    have i3 : ((k : Int) / 4).toNat = k / 4 := by omega
    have i4 : IntKind.i64.wrap ((k : Int) / 4) = (k : Int) / 4 := by rw [IntKind.wrap_i64]; omega
    have i5 : (k : Int).tdiv 4 = (k : Int) / 4 := rfl
    have i6 : (k : Int).tmod 4 = (k : Int) % 4 := rfl
    have i7 : IntKind.i64.wrap ((k : Int) % 4) = (k : Int) % 4 := by rw [IntKind.wrap_i64]; omega
    have i8 : IntKind.i64.wrap (8 * ((k : Int) % 4)) = 8 * ((k : Int) % 4) := by rw [IntKind.wrap_i64]; omega
    have i9 : IntKind.i64.wrap (24 - 8 * ((k : Int) % 4)) = 24 - 8 * ((k : Int) % 4) := by rw [IntKind.wrap_i64]; omega
    have j1 : (0 : Int) ≤ 24 - 8 * ((k : Int) % 4) := by omega
    have j2 : (24 - 8 * ((k : Int) % 4)).toNat = 24 - 8 * (k % 4) := by omega
    have j3 : min (24 - 8 * (k % 4)) 64 = 24 - 8 * (k % 4) := by omega
    have j4 : 8 * ((k : Int) % 4) ≤ 24 := by omega
    obtain ⟨Y, hY⟩ : ∃ Y, Y = sumB f k := ⟨_, rfl⟩
    have j5 : IntKind.u8.wrap ((X : Int) / 2 ^ (24 - 8 * (k % 4))) = (Y : Int) := by
      rw [IntKind.wrap_u8, hY]
      unfold sumB
      rw [← hX, show k % 4 * 8 = 8 * (k % 4) by omega, Int.natCast_emod, Int.natCast_ediv, Int.natCast_pow]
      rfl
    have HY := Lib.hid hY
    clear hX hY
    refine anyM 0 h 361 30 rfl rfl rfl rfl rfl rfl (by kernel_rfl) (by kernel_rfl) (by kernel_rfl) (fun c a w h => hQ _ _ _ _ _ h) hS ?_
    clear h
    intro a h
    refine anyM 1 h 362 10 rfl rfl rfl rfl rfl rfl (by kernel_rfl) (by kernel_rfl) (by kernel_rfl) (fun c a w h => hQ _ _ _ _ _ h) hS ?_
    clear h
    intro a h
    refine anyM 2 h 363 31 rfl rfl rfl rfl rfl rfl (by kernel_rfl) (by kernel_rfl) (by kernel_rfl) (fun c a w h => hQ _ _ _ _ _ h) hS ?_
    clear h
    intro a h
    refine anyM 3 h 364 7 rfl rfl rfl rfl rfl rfl (by kernel_rfl) (by kernel_rfl) (by kernel_rfl) (fun c a w h => hQ _ _ _ _ _ h) hS ?_
    clear h
    intro a h
    refine anyH 4 h 365 (Value.int .i64 ((k : Int) / 4)) rfl rfl rfl (by kernel_rfl) (by kernel_rfl) (by kernel_rfl) (fun c a w h => hQ _ _ _ _ _ h) (Or.inl ⟨rfl, fun w' hw' => by
        have e363 : a.eval (.tmp 363) = _ := h.ev 363 rfl
        have e364 : a.eval (.tmp 364) = _ := h.ev 364 rfl
        simp only [execOp, e363, e364]
        go_simp⟩) hS ?_
    clear h
    intro a h
    refine anyH 5 h 366 (Value.pointer (some ⟨gh, k / 4, none⟩)) rfl rfl rfl (by kernel_rfl) (by kernel_rfl) (by kernel_rfl) (fun c a w h => hQ _ _ _ _ _ h) (Or.inl ⟨rfl, fun w' hw' => by
        have e362 : a.eval (.tmp 362) = _ := h.ev 362 rfl
        have e365 : a.eval (.tmp 365) = _ := h.ev 365 rfl
        simp only [execOp, e362, e365]
        go_simp⟩) hS ?_
    clear h
    intro a h
    refine anyH 6 h 367 (Value.int .u64 (X : Int)) rfl rfl rfl (by kernel_rfl) (by kernel_rfl) (by kernel_rfl) (fun c a w h => hQ _ _ _ _ _ h) (Or.inl ⟨rfl, fun w' hw' => by
        have e366 : a.eval (.tmp 366) = _ := h.ev 366 rfl
        have c1 := CX.out w' hw'
        simp only [execOp, e366]
        go_simp⟩) hS ?_
    clear h
    intro a h
    refine anyM 7 h 368 1 rfl rfl rfl rfl rfl rfl (by kernel_rfl) (by kernel_rfl) (by kernel_rfl) (fun c a w h => hQ _ _ _ _ _ h) hS ?_
    clear h
    intro a h
    refine anyH 8 h 369 (Value.int .i64 24) rfl rfl rfl (by kernel_rfl) (by kernel_rfl) (by kernel_rfl) (fun c a w h => hQ _ _ _ _ _ h) (Or.inl ⟨rfl, fun w' hw' => by
        have e368 : a.eval (.tmp 368) = _ := h.ev 368 rfl
        simp only [execOp, e368]
        go_simp⟩) hS ?_
    clear h
    intro a h
    refine anyM 9 h 370 31 rfl rfl rfl rfl rfl rfl (by kernel_rfl) (by kernel_rfl) (by kernel_rfl) (fun c a w h => hQ _ _ _ _ _ h) hS ?_
    clear h
    intro a h
    refine anyM 10 h 371 7 rfl rfl rfl rfl rfl rfl (by kernel_rfl) (by kernel_rfl) (by kernel_rfl) (fun c a w h => hQ _ _ _ _ _ h) hS ?_
    clear h
    intro a h
    refine anyH 11 h 372 (Value.int .i64 ((k : Int) % 4)) rfl rfl rfl (by kernel_rfl) (by kernel_rfl) (by kernel_rfl) (fun c a w h => hQ _ _ _ _ _ h) (Or.inl ⟨rfl, fun w' hw' => by
        have e370 : a.eval (.tmp 370) = _ := h.ev 370 rfl
        have e371 : a.eval (.tmp 371) = _ := h.ev 371 rfl
        simp only [execOp, e370, e371]
        go_simp⟩) hS ?_
    clear h
    intro a h
    refine anyH 12 h 373 (Value.int .i64 (8 * ((k : Int) % 4))) rfl rfl rfl (by kernel_rfl) (by kernel_rfl) (by kernel_rfl) (fun c a w h => hQ _ _ _ _ _ h) (Or.inl ⟨rfl, fun w' hw' => by
        have e372 : a.eval (.tmp 372) = _ := h.ev 372 rfl
        simp only [execOp, e372]
        go_simp⟩) hS ?_
    clear h
    intro a h
    refine anyH 13 h 374 (Value.int .i64 (24 - 8 * ((k : Int) % 4))) rfl rfl rfl (by kernel_rfl) (by kernel_rfl) (by kernel_rfl) (fun c a w h => hQ _ _ _ _ _ h) (Or.inl ⟨rfl, fun w' hw' => by
        have e369 : a.eval (.tmp 369) = _ := h.ev 369 rfl
        have e373 : a.eval (.tmp 373) = _ := h.ev 373 rfl
        simp only [execOp, e369, e373]
        go_simp⟩) hS ?_
    clear h
    intro a h
    refine anyH 14 h 375 (Value.int .u64 ((X : Int) / 2 ^ (24 - 8 * (k % 4)))) rfl rfl rfl (by kernel_rfl) (by kernel_rfl) (by kernel_rfl) (fun c a w h => hQ _ _ _ _ _ h) (Or.inl ⟨rfl, fun w' hw' => by
        have e367 : a.eval (.tmp 367) = _ := h.ev 367 rfl
        have e374 : a.eval (.tmp 374) = _ := h.ev 374 rfl
        simp only [execOp, e367, e374]
        go_simp⟩) hS ?_
    clear h
    intro a h
    refine anyH 15 h 376 (Value.int .u8 (Y : Int)) rfl rfl rfl (by kernel_rfl) (by kernel_rfl) (by kernel_rfl) (fun c a w h => hQ _ _ _ _ _ h) (Or.inl ⟨rfl, fun w' hw' => by
        have e375 : a.eval (.tmp 375) = _ := h.ev 375 rfl
        simp only [execOp, e375]
        go_simp⟩) hS ?_
    clear h
    intro a h
    have b7 : Below V.heap.size V (V.alloc (.cells #[.int .u8 (Y : Int)] 5)) := (Below.refl _ _).alloc (Nat.le_refl _) _
    have W7 := byte_row V Y
    have lo := outK_length f k
    obtain ⟨v8, w8, r8, O8, g8, o8⟩ := append_ba w0.heap.size _ 22 _ _ [Y] (hO.below b7) V.heap.size 0 1 W7 (by rw [lo]; simp; omega) (by have := hS.2.size; simp; omega)
    rw [show List.length [Y] = 1 from rfl] at r8
    have B8 : Below w0.heap.size w0 w8 := below_grown' (hS.2.trans (b7.mono hS.2.size)) g8 (fun j hj => ((hO.below b7).lt j hj).1) (by have := hS.2.size; simp; omega)
    have S8 : RF w8 gh 8 f ∧ Below w0.heap.size w0 w8 := ⟨RQ.below H0 B8, B8⟩
    rw [HY.out, outK_succ] at O8
    refine anyW 16 h 377 rfl rfl rfl rfl (by kernel_rfl) (fun v w' => v = .slice (some ⟨V.heap.size, 0, none⟩) 1 1 ∧ w' = V.alloc (.cells #[.int .u8 (Y : Int)] 5)) (fun K hK => by
      have f376 := h.at_ 376 rfl
      unfold Oper.wp execOp
      go_simp
      exact hK _ _ ⟨rfl, rfl⟩) ?_
    rintro _ _ ⟨rfl, rfl⟩
    refine ⟨⟨RQ.below hS.1 b7, hS.2.trans (b7.mono hS.2.size)⟩, ?_⟩
    clear h
    intro a h
    refine anyW 17 h 378 rfl rfl rfl rfl (by kernel_rfl) (fun v w' => v = v8 ∧ w' = w8) (fun K hK => wp_append_run _ _ _ _ rfl _ _ (h.ev 361 rfl) (h.ev 377 rfl) _ _ r8 (hK _ _ ⟨rfl, rfl⟩)) ?_
    rintro v9 w9 ⟨rfl, rfl⟩
    refine ⟨S8, ?_⟩
    clear h
    intro a h
    clear hS
    have hS := S8
    refine anyA 18 h 30 378 rfl rfl rfl rfl rfl rfl (by kernel_rfl) (by kernel_rfl) (by kernel_rfl) (fun c a w h => hQ _ _ _ _ _ h) hS ?_
    clear h
    intro a h
    refine wpAnyS_done (by kernel_rfl) ?_ _
    clear i1 i2 i3 i4 i5 i6 i7 i8 i9 j1 j2 j3 j4 j5
    show Code.wp _ _ _ _ _
    refine wp_region_seq ?_
    have ew : IntKind.i64.wrap ((k : Int) + 1) = (k : Int) + 1 := by rw [IntKind.wrap_i64]; omega
    refine seqM h 359 31 rfl rfl rfl rfl rfl ?_
    clear h
    intro a h
    refine seqH h 360 (Value.int .i64 ((k : Int) + 1)) rfl rfl (Or.inl ⟨rfl, fun w' hw' => by
        subst hw'
        have e359 : a.eval (.tmp 359) = _ := h.ev 359 rfl
        simp only [execOp, e359]
        go_simp⟩) ?_
    clear h
    intro a h
    refine seqA h 31 360 rfl rfl rfl rfl rfl ?_
    clear h
    intro a h
    refine wpSeq_nil ?_
    refine ⟨⟨k + 1, v9, by omega, h.trim _ ?_, ⟨hS.1, O8, hS.2⟩⟩, ?_⟩
    · intro p hp
      simp only [baseO, List.mem_cons, List.not_mem_nil, or_false] at hp
      rcases hp with rfl | rfl | rfl | rfl | rfl <;> rfl
    · have hm2 : a.tmps.getD 31 undef = .int .i64 ((k + 1 : Nat) : Int) := h.val 31 _ rfl
      rw [hm2]
      simp only [intOf]
      omega
  · have l0 : ¬ ((k : Int) < 32) := by omega
    obtain rfl : k = 32 := by omega
    refine seqM h 355 31 rfl rfl rfl rfl rfl ?_
    clear h
    intro a h
    refine seqM h 356 7 rfl rfl rfl rfl rfl ?_
    clear h
    intro a h
    refine seqH h 357 (Value.int .i64 32) rfl rfl (Or.inl ⟨rfl, fun w' hw' => by
        subst hw'
        have e356 : a.eval (.tmp 356) = _ := h.ev 356 rfl
        simp only [execOp, e356]
        go_simp⟩) ?_
    clear h
    intro a h
    refine seqH h 358 (Value.bool false) rfl rfl (Or.inl ⟨rfl, fun w' hw' => by
        subst hw'
        have e355 : a.eval (.tmp 355) = _ := h.ev 355 rfl
        have e357 : a.eval (.tmp 357) = _ := h.ev 357 rfl
        simp only [execOp, e355, e357]
        go_simp⟩) ?_
    clear h
    intro a h
    refine wpSeq_nil ?_
    show Code.wp _ _ _ _ _
    refine wp_cond (t := false) (h.ev 358 rfl) ?_
    refine wp_exit ?_
    refine hexit _ _ v (h.trim _ ?_) hL.o hL.b
    intro p hp
    rw [List.mem_singleton.1 hp]
    rfl
end Go.Proofs.YtdmhngkedgkndaaDoor
