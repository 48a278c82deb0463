/- The contract of the reference's Square: by value. -/
import Derived.Test.YtjaomgildhiddaaDoorRm
import Derived.Test.YtjaomgildhiddaaDoorNc
import Derived.Test.YtjaomgildhiddaaDoorLl
namespace Go.Proofs.YtjaomgildhiddaaDoor
open Go.RowKit

def halfF (f : Nat → Nat) (i : Nat) : Nat := f i / 2 + f (i + 1) % 2 * 32768
theorem halfF_lt (f : Nat → Nat) (hf : ∀ i, f i < 65536) (i : Nat) : halfF f i < 65536 := by
  have := hf i
  unfold halfF
  omega
theorem half_num (f : Nat → Nat) : ∀ n, 2 * lv (halfF f) n + f 0 % 2 = lv f n + f n % 2 * 65536 ^ n
  | 0 => by simp [lv]
  | n + 1 => by
    have ih := half_num f n
    have e : 2 * (halfF f n * 65536 ^ n) + f n % 2 * 65536 ^ n = f n * 65536 ^ n + f (n + 1) % 2 * 65536 ^ (n + 1) := by
      rw [Nat.pow_succ, Nat.mul_comm (65536 ^ n) 65536, ← Nat.mul_assoc 2, ← Nat.mul_assoc (f (n + 1) % 2), ← Nat.add_mul, ← Nat.add_mul]
      congr 1
      unfold halfF
      omega
    simp only [lv]
    omega
theorem half_part (x y : Nat) (hx : x < 65536) (hy : y < 65536) :
    bits .or .u32 ((x : Int) / 2) (bits .and .u32 (IntKind.u32.wrap ((y : Int) * 32768)) 65535) = ((x / 2 + y % 2 * 32768 : Nat) : Int) := by
  rw [IntKind.wrap_u32, and16 _ (by omega) (by omega), or_comm32, or32 15 _ _ (by omega) (by omega) (by omega) (by omega) (by omega) (by decide)]
  omega

def cutF (n : Nat) (f : Nat → Nat) (i : Nat) : Nat := if i < n then f i else 0
theorem cutF_lt (n : Nat) (f : Nat → Nat) (hf : ∀ i, f i < 65536) (i : Nat) : cutF n f i < 65536 := by
  unfold cutF
  split
  · exact hf i
  · decide
theorem lv_cut (n : Nat) (f : Nat → Nat) : ∀ k, k ≤ n → lv (cutF n f) k = lv f k
  | 0, _ => rfl
  | k + 1, h => by
    simp only [lv]
    rw [lv_cut n f k (by omega), show cutF n f k = f k from if_pos (by omega)]
theorem cut_list (n : Nat) (f : Nat → Nat) : (List.range n).map (fun i => ((cutF n f i : Nat) : Int)) = (List.range n).map fun i => ((f i : Nat) : Int) :=
  List.map_congr_left fun i hi => by rw [show cutF n f i = f i from if_pos (List.mem_range.1 hi)]
/-- The memory of Square behind k rounds. -/
structure SqW (ga na gm : Nat) (fa f : Nat → Nat) (w wr : World) (k : Nat) : Prop where
  a : Sl wr ga na fa
  m : Sl wr gm 16 f
  out : Blk wr w.heap.size 30 (Iv .u32 (fill 16 (fun i => ((halfF f i : Nat) : Int)) k))
  k : Below w.heap.size w wr
  la : ga < w.heap.size
  lm : w.heap.size < gm
theorem SqW.drew {ga na gm : Nat} {fa f : Nat → Nat} {w wr : World} {k : Nat} (h : SqW ga na gm fa f w wr k) : SqW ga na gm fa f w wr.drew k := ⟨h.a.drew, h.m.drew, h.out, below_drew h.k, h.la, h.lm⟩
theorem SqW.step {ga na gm : Nat} {fa f : Nat → Nat} {w wr : World} {k : Nat} (h : SqW ga na gm fa f w wr k) :
    SqW ga na gm fa f w (wr.setCell ⟨w.heap.size, k, none⟩ (.int .u32 ((halfF f k : Nat) : Int))) (k + 1) := by
  have hla := h.la; have hlm := h.lm
  refine ⟨h.a.far (by simp; omega) _, h.m.far (by simp; omega) _, ?_, h.k.setCell (by simp) _, h.la, h.lm⟩
  have := h.out.set k (.int .u32 ((halfF f k : Nat) : Int))
  rw [Iv_set, fill_set 16 (fun i => ((halfF f i : Nat) : Int)) k] at this
  exact this

set_option maxHeartbeats 2000000 in
set_option maxRecDepth 100000 in
theorem rsquare_any (ga na ca : Nat) (fa : Nat → Nat) (w : World) (ha : Sl w ga na fa) (hna : na ≤ 17) :
    Calls Tryd.prog 44 #[SlV ga na ca] w fun e w' => e = .returned (.bool (rSquare (lv fa na))) ∧ Below w.heap.size w w' := by
  obtain ⟨R, hR⟩ : ∃ R, R = rSquare (lv fa na) := ⟨_, rfl⟩
  rw [← hR]
  have HR := Lib.hid hR
  clear hR
  have hmk1 : (Instr.makeSlice 26 (.int .i64 16) (.int .i64 16)).run Tryd.prog w = .ok (.slice (some ⟨w.heap.size, 0, none⟩) 16 16) (w.alloc (.cells (Iv .u32 (fill 16 (fun _ => 0) 0)) 30)) := make32 16 (by decide) (fun _ => 0) w
  unfold SlV
  go_enter Tryd.func44, Tryd.ntmps44
  go_wp2_with fail
  have hO := Blk.new w 30 (Iv .u32 (fill 16 (fun _ => 0) 0))
  have hB := (Below.refl w.heap.size w).alloc (Nat.le_refl _) (.cells (Iv .u32 (fill 16 (fun _ => 0) 0)) 30)
  have hA := ha.below hB
  clear hmk1
  refine (p_any _).mono ?_
  rintro e w1 ⟨gp, cp, rfl, SP, _, b⟩
  replace hB := hB.trans (b.mono hB.size)
  replace hO := hO.below b hO.lt
  replace hA := hA.below b
  clear b
  unfold SlV
  go_wp2_with fail
  refine (num_any 1 _ (by decide)).mono ?_
  rintro e w2 ⟨g2, c2, rfl, S2, _, b⟩
  replace hB := hB.trans (b.mono hB.size)
  replace hO := hO.below b hO.lt
  replace hA := hA.below b
  replace SP := SP.below b
  clear b
  unfold SlV
  go_wp2_with fail
  refine (minus_any gp 16 cp g2 2 c2 _ _ _ SP S2 (by decide)).mono ?_
  rintro e w3 ⟨gm, cm, rfl, SM, hgm, b⟩
  have hlt := hO.lt
  replace hB := hB.trans (b.mono hB.size)
  replace hO := hO.below b hO.lt
  replace hA := hA.below b
  have hs := sub_val pF (numF 1) 16 2 pF_lt S2.lt S2.high (by decide) (by rw [pF_num, numF_num 1 (by decide)]; decide)
  rw [pF_num, numF_num 1 (by decide)] at hs
  obtain ⟨f, hf⟩ : ∃ f, f = subF 16 pF (numF 1) := ⟨_, rfl⟩
  rw [← hf] at SM hs
  have hlm : w.heap.size < gm := Nat.lt_of_lt_of_le hlt hgm
  clear b SP S2 hf hgm hlt
  have hh := half_num f 16
  rw [hs, SM.high 16 (Nat.le_refl _), Nat.zero_mod, Nat.zero_mul, Nat.add_zero] at hh
  have hH : lv (halfF f) 16 = 28948022309329048855892746252171976963317496166410141009864396001978282409974 := by
    rw [pp_eq] at hh
    omega
  have HH := Lib.hid hH
  clear hh hs hH
  have F0 : SqW ga na gm fa f w w3 0 := ⟨hA, SM, hO, hB, ha.blk, hlm⟩
  clear hA SM hO hB ha hlm
  unfold SlV
  go_wp2_with fail
  go_loopw [5] (fun i wr => ∃ k : Nat, k ≤ 16 ∧ i = .int .i64 k ∧ SqW ga na gm fa f w wr k) (fun i _ => 16 - (intOf i).toNat)
  case atStart => exact ⟨0, by omega, rfl, F0⟩
  case round =>
    obtain ⟨k, hk, rfl, F⟩ := hrel
    clear F0
    by_cases hlt : k < 16
    · have i1 : (0 : Int) ≤ (k : Int) := by omega
      have i2 : (k : Int) < 16 := by omega
      go_upto_region 6 with fail
      have G := F.drew
      clear F
      refine wp_region_Z (S := fun w' => w' = World.drew wr) 15 (by kernel_rfl) ?_
      generalize World.drew wr = V at G ⊢
      have cm1 : V.cell? ⟨gm, k, none⟩ = some (.int .u32 ((f k : Nat) : Int)) := G.m.cell k hlt
      have PA : ∀ W, Sl W gm 16 f → Calls Tryd.prog 30 #[.slice (some ⟨gm, 0, none⟩) 16 cm, .int .i64 ((k : Int) + 1)] W fun e w' => e = .returned (.int .u32 ((f (k + 1) : Nat) : Int)) ∧ W = w' := fun W h => part_any gm 16 cm f (k + 1) W h
      have l1 := G.m.lt k
      have l2 := G.m.lt (k + 1)
      have hp := half_part (f k) (f (k + 1)) l1 l2
      have i3 : IntKind.i64.wrap ((k : Int) + 1) = (k : Int) + 1 := by rw [IntKind.wrap_i64]; omega
      have c1 : V.cell? ⟨w.heap.size, k, none⟩ = some (.int .u32 0) := by
        rw [G.out.cell, Iv_get _ _ _ (by rw [fill_length]; omega), fill_getD _ _ _ _ hlt, if_neg (by omega)]
      have f1 := G.out.frozen k
      generalize hx : f k = x at cm1 hp l1
      generalize hy : f (k + 1) = y at PA hp l2
      have PAh := Lib.hid PA
      have HP := Lib.hid hp
      have HX := Lib.hid hx
      have HY := Lib.hid hy
      clear PA hp hx hy
      have hS : (fun w' => w' = V) V := rfl
      refine wpAnyZ_takeL 0 (v := ?_) rfl (by kernel_rfl) (by kernel_rfl) (by kernel_rfl) (by kernel_rfl) (by kernel_rfl) (fun _ _ _ h => h) (Or.inl ⟨by rfl, ?_⟩) hS ?_
      rotate_left
      · intro w' hw'
        obtain rfl : w' = V := hw'
        go_simp
        try (with_reducible rfl)
      simp only [Act.put, List.setIfInBounds_toArray, List.set_cons_zero, List.set_cons_succ]
      refine wpAnyZ_takeL 1 (v := ?_) rfl (by kernel_rfl) (by kernel_rfl) (by kernel_rfl) (by kernel_rfl) (by kernel_rfl) (fun _ _ _ h => h) (Or.inl ⟨by rfl, ?_⟩) hS ?_
      rotate_left
      · intro w' hw'
        obtain rfl : w' = V := hw'
        go_simp
        try (with_reducible rfl)
      simp only [Act.put, List.setIfInBounds_toArray, List.set_cons_zero, List.set_cons_succ]
      refine wpAnyZ_takeL 2 (v := ?_) rfl (by kernel_rfl) (by kernel_rfl) (by kernel_rfl) (by kernel_rfl) (by kernel_rfl) (fun _ _ _ h => h) (Or.inl ⟨by rfl, ?_⟩) hS ?_
      rotate_left
      · intro w' hw'
        obtain rfl : w' = V := hw'
        go_simp
        try (with_reducible rfl)
      simp only [Act.put, List.setIfInBounds_toArray, List.set_cons_zero, List.set_cons_succ]
      refine wpAnyZ_takeL 3 (v := ?_) rfl (by kernel_rfl) (by kernel_rfl) (by kernel_rfl) (by kernel_rfl) (by kernel_rfl) (fun _ _ _ h => h) (Or.inl ⟨by rfl, ?_⟩) hS ?_
      rotate_left
      · intro w' hw'
        obtain rfl : w' = V := hw'
        go_simp
        try (with_reducible rfl)
      simp only [Act.put, List.setIfInBounds_toArray, List.set_cons_zero, List.set_cons_succ]
      refine wpAnyZ_takeL 4 (v := ?_) rfl (by kernel_rfl) (by kernel_rfl) (by kernel_rfl) (by kernel_rfl) (by kernel_rfl) (fun _ _ _ h => h) (Or.inl ⟨by rfl, ?_⟩) hS ?_
      rotate_left
      · intro w' hw'
        obtain rfl : w' = V := hw'
        go_simp
        try (with_reducible rfl)
      simp only [Act.put, List.setIfInBounds_toArray, List.set_cons_zero, List.set_cons_succ]
      refine wpAnyZ_takeL 5 (v := ?_) rfl (by kernel_rfl) (by kernel_rfl) (by kernel_rfl) (by kernel_rfl) (by kernel_rfl) (fun _ _ _ h => h) (Or.inl ⟨by rfl, ?_⟩) hS ?_
      rotate_left
      · intro w' hw'
        obtain rfl : w' = V := hw'
        go_simp
        try (with_reducible rfl)
      simp only [Act.put, List.setIfInBounds_toArray, List.set_cons_zero, List.set_cons_succ]
      refine wpAnyZ_takeL 6 (v := ?_) rfl (by kernel_rfl) (by kernel_rfl) (by kernel_rfl) (by kernel_rfl) (by kernel_rfl) (fun _ _ _ h => h) (Or.inl ⟨by rfl, ?_⟩) hS ?_
      rotate_left
      · intro w' hw'
        obtain rfl : w' = V := hw'
        go_simp
        try (with_reducible rfl)
      simp only [Act.put, List.setIfInBounds_toArray, List.set_cons_zero, List.set_cons_succ]
      refine wpAnyZ_takeL 7 (v := ?_) rfl (by kernel_rfl) (by kernel_rfl) (by kernel_rfl) (by kernel_rfl) (by kernel_rfl) (fun _ _ _ h => h) (Or.inl ⟨by rfl, ?_⟩) hS ?_
      rotate_left
      · intro w' hw'
        obtain rfl : w' = V := hw'
        go_simp
        try (with_reducible rfl)
      simp only [Act.put, List.setIfInBounds_toArray, List.set_cons_zero, List.set_cons_succ]
      refine wpAnyZ_takeL 8 (v := ?_) rfl (by kernel_rfl) (by kernel_rfl) (by kernel_rfl) (by kernel_rfl) (by kernel_rfl) (fun _ _ _ h => h) (Or.inl ⟨by rfl, ?_⟩) hS ?_
      rotate_left
      · intro w' hw'
        obtain rfl : w' = V := hw'
        go_simp
        try (with_reducible rfl)
      simp only [Act.put, List.setIfInBounds_toArray, List.set_cons_zero, List.set_cons_succ]
      refine wpAnyZ_takeL 9 (v := ?_) rfl (by kernel_rfl) (by kernel_rfl) (by kernel_rfl) (by kernel_rfl) (by kernel_rfl) (fun _ _ _ h => h) (Or.inl ⟨by rfl, ?_⟩) hS ?_
      rotate_left
      · intro w' hw'
        obtain rfl : w' = V := hw'
        go_simp
        try (with_reducible rfl)
      simp only [Act.put, List.setIfInBounds_toArray, List.set_cons_zero, List.set_cons_succ]
      refine wpAnyZ_one (i := 10) (by kernel_rfl) ?_
      unfold wpOp
      go_simp
      left
      refine (PAh.out _ G.m).mono ?_
      rintro e v4 ⟨rfl, rfl⟩
      refine ⟨hS, ?_⟩
      refine wpAnyZ_takeL 11 (v := ?_) rfl (by kernel_rfl) (by kernel_rfl) (by kernel_rfl) (by kernel_rfl) (by kernel_rfl) (fun _ _ _ h => h) (Or.inl ⟨by rfl, ?_⟩) hS ?_
      rotate_left
      · intro w' hw'
        obtain rfl : w' = V := hw'
        go_simp
        try (with_reducible rfl)
      simp only [Act.put, List.setIfInBounds_toArray, List.set_cons_zero, List.set_cons_succ]
      refine wpAnyZ_takeL 12 (v := ?_) rfl (by kernel_rfl) (by kernel_rfl) (by kernel_rfl) (by kernel_rfl) (by kernel_rfl) (fun _ _ _ h => h) (Or.inl ⟨by rfl, ?_⟩) hS ?_
      rotate_left
      · intro w' hw'
        obtain rfl : w' = V := hw'
        go_simp
        try (with_reducible rfl)
      simp only [Act.put, List.setIfInBounds_toArray, List.set_cons_zero, List.set_cons_succ]
      refine wpAnyZ_takeL 13 (v := ?_) rfl (by kernel_rfl) (by kernel_rfl) (by kernel_rfl) (by kernel_rfl) (by kernel_rfl) (fun _ _ _ h => h) (Or.inl ⟨by rfl, ?_⟩) hS ?_
      rotate_left
      · intro w' hw'
        obtain rfl : w' = V := hw'
        go_simp
        try (with_reducible rfl)
      simp only [Act.put, List.setIfInBounds_toArray, List.set_cons_zero, List.set_cons_succ]
      refine wpAnyZ_takeL 14 (v := ?_) rfl (by kernel_rfl) (by kernel_rfl) (by kernel_rfl) (by kernel_rfl) (by kernel_rfl) (fun _ _ _ h => h) (Or.inl ⟨by rfl, ?_⟩) hS ?_
      rotate_left
      · intro w' hw'
        obtain rfl : w' = V := hw'
        go_simp
        try (with_reducible rfl)
      simp only [Act.put, List.setIfInBounds_toArray, List.set_cons_zero, List.set_cons_succ]
      refine wpAnyZ_one (i := 15) (by kernel_rfl) ?_
      unfold wpOp
      go_simp
      left
      refine wpAnyZ_done (by kernel_rfl) ?_ _
      rw [HP.out]
      have G2 := G.step
      have ev : halfF f k = x / 2 + y % 2 * 32768 := by rw [← HX.out, ← HY.out]; rfl
      rw [ev] at G2
      clear cm1 PAh HP HX HY c1 f1 ev l1 l2 hS
      go_wp2
      exact ⟨⟨k + 1, by omega, by go_num, G2⟩, by simp [intOf]; omega⟩
    · obtain rfl : k = 16 := by omega
      have lf := F.m.lt
      obtain ⟨hA, _, hO, hB, _, _⟩ := F
      rw [fill_full] at hO
      obtain ⟨F2, hF2⟩ : ∃ F2, F2 = cutF 16 (halfF f) := ⟨_, rfl⟩
      rw [← lv_cut 16 (halfF f) 16 (Nat.le_refl _), ← hF2] at HH
      have SO : Sl wr w.heap.size 16 F2 := by
        rw [hF2]
        refine Sl.of_blk (t := 30) ?_ (fun i => cutF_lt 16 _ (fun i => halfF_lt f lf i) i) (fun i hi => if_neg (by omega))
        rw [cut_list]
        exact hO
      obtain ⟨h, hh⟩ : ∃ h, h = lv F2 16 := ⟨_, rfl⟩
      have eh := Lib.hid (hh.trans HH.out)
      have cP := fun W (a : Sl W ga na fa) (b : Sl W w.heap.size 16 F2) => rpow_any ga na ca w.heap.size 16 16 fa F2 W a b hna (by decide)
      rw [← hh] at cP
      obtain ⟨A, hA2⟩ : ∃ A, A = lv fa na := ⟨_, rfl⟩
      rw [← hA2] at cP HR
      have CP := Lib.hid cP
      clear cP hh HH hO hA2 hF2
      unfold SlV at CP
      go_wp2_with fail
      refine (CP.out _ hA SO).mono ?_
      rintro e w4 ⟨g4, n4, c4, f4, rfl, S4, v4, h4, b⟩
      replace hB := hB.trans (b.mono hB.size)
      clear b hA SO CP
      obtain ⟨M, hM⟩ : ∃ M, M = lv f4 n4 := ⟨_, rfl⟩
      have eM : M = mpow A h := hM.trans v4
      have EM := Lib.hid eM
      have HM := Lib.hid hM
      clear v4 eM hM
      unfold SlV
      go_wp2_with fail
      refine (num_any 1 _ (by decide)).mono ?_
      rintro e w5 ⟨g5, c5, rfl, S5, _, b⟩
      replace hB := hB.trans (b.mono hB.size)
      replace S4 := S4.below b
      clear b
      have cS := fun W (a : Sl W g4 n4 f4) (b : Sl W g5 2 (numF 1)) => rsame_any g4 n4 c4 g5 2 c5 f4 (numF 1) W a b (by omega) (by decide)
      rw [numF_num 1 (by decide), ← HM.out] at cS
      unfold SlV at cS ⊢
      by_cases h1 : M = 1
      · rw [decide_eq_true h1] at cS
        have CS := Lib.hid cS
        have eR : Hid (R = true) := Lib.hid (by
          rw [HR.out]
          unfold rSquare
          rw [← eh.out, ← EM.out, decide_eq_true h1]
          rfl)
        clear cS h1 HR
        go_wp2_with fail
        refine (CS.out _ S4 S5).mono ?_
        rintro e w6 ⟨rfl, b⟩
        replace hB := hB.trans (b.mono hB.size)
        clear b
        go_wp2
        go_ret
        exact ⟨by rw [eR.out]; rfl, hB⟩
      · rw [decide_eq_false h1] at cS
        have CS := Lib.hid cS
        have eR : Hid (R = decide (M = 0)) := Lib.hid (by
          rw [HR.out]
          unfold rSquare
          rw [← eh.out, ← EM.out, decide_eq_false h1]
          rfl)
        clear cS h1 HR
        go_wp2_with fail
        refine (CS.out _ S4 S5).mono ?_
        rintro e w6 ⟨rfl, b⟩
        replace hB := hB.trans (b.mono hB.size)
        replace S4 := S4.below b
        clear b
        go_wp2_with fail
        refine (num_any 0 _ (by decide)).mono ?_
        rintro e w7 ⟨g7, c7, rfl, S7, _, b⟩
        replace hB := hB.trans (b.mono hB.size)
        replace S4 := S4.below b
        clear b S5 CS
        have cS := fun W (a : Sl W g4 n4 f4) (b : Sl W g7 2 (numF 0)) => rsame_any g4 n4 c4 g7 2 c7 f4 (numF 0) W a b (by omega) (by decide)
        rw [numF_num 0 (by decide), ← HM.out] at cS
        unfold SlV at cS ⊢
        have CS := Lib.hid cS
        clear cS
        go_wp2_with fail
        refine (CS.out _ S4 S7).mono ?_
        rintro e w8 ⟨rfl, b⟩
        replace hB := hB.trans (b.mono hB.size)
        clear b
        go_wp2
        go_ret
        exact ⟨by rw [eR.out]; rfl, hB⟩
theorem rsquare_v (v : Value) (V : Nat) (c : Bool) (w : World) (hv : LongIs w v V) (hc : rSquare V = c) : Calls Tryd.prog 44 #[v] w fun e w' => e = .returned (.bool c) ∧ Below w.heap.size w w' := by
  obtain ⟨g, n, cc, f, rfl, h1, h2, h3⟩ := hv
  have := rsquare_any g n cc f w h1 h3
  rw [h2, hc] at this
  exact this

end Go.Proofs.YtjaomgildhiddaaDoor
