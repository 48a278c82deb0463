/- The reference's hash: its contract (printed by genge9.py). -/
import Derived.Test.YtpihgljdbpnehaaDoorGb0Va
import Derived.Test.YtpihgljdbpnehaaDoorPg
namespace Go.Proofs.YtpihgljdbpnehaaDoor
open Go.RowKit
/-- A whole block read at the end of a region that keeps the text's order. -/
theorem hashF_s (y h : Nat → Nat) (l : List Nat) (j : Nat) : hashF y h l (j + 1) = timesF (joinF (hashF y h l j) l j) h := rfl
theorem HS.congr {w wr : World} {v : Value} {l : List Nat} {y y' h : Nat → Nat} (H : HS w v l y h wr) (e : ∀ i, i < 16 → y i = y' i) : HS w v l y' h wr := ⟨H.y.congr e, H.h, H.r, H.s, H.bl⟩
section
variable {P : Program} {md : Region.Mode} {ops : Array Oper} {Q : Exit → Act → World → Prop} {S : World → Prop}
/-- A cell stored, as the last operation. -/
theorem zcellZ (i : Nat) {z : Nat} {oi : Oper} {fuel : Nat} {listed : Array Bool} {a : Act} {w : World} (hi : ops.toList[i]? = some oi) (hgd : oi.guard = none) (hr : Region.ready md ops listed = [i]) (hz : (listed.setIfInBounds i true).getD z true = true)
  (w' : World) (hw : ∀ K : Act → World → Prop, K a w' → oi.wp P a w K Q) (k : wpAnyZ P md ops Q S z fuel (listed.setIfInBounds i true) a w') : wpAnyZ P md ops Q S z (fuel + 1) listed a w :=
 zstep i hi hgd hr (hw _ ⟨(fun e => by rw [hz] at e; cases e), k⟩)
end
theorem info_nl (f : Nat → Nat) : (Tryd.prog.info? 26).map (·.size) = some (Iv .u8 (NI (LB f))).size := info_16 f
set_option maxHeartbeats 8000000 in
set_option maxRecDepth 100000 in
theorem rhash_f (y h : Nat → Nat) (hy : ∀ i, y i < 256) (hh : ∀ i, h i < 256) (l : List Nat) (bl : ∀ x ∈ l, x < 256) (n : Nat) (hn : n = l.length) (ll : n ≤ 1000000) (p : Option Addr) (c : Nat) (w : World) (hs : SB w (.slice p n c) l) :
  Calls Tryd.prog 52 #[.agg (Iv .u8 (NI (LB y))), .agg (Iv .u8 (NI (LB h))), .slice p n c] w fun e w' => e = .returned (.agg (Iv .u8 (NI (LB (hashF y h l ((n + 15) / 16)))))) ∧ Below w.heap.size w w' := by
 have HN := Lib.hid hn
 clear hn
 go_enter Tryd.func52, Tryd.ntmps52
 go_upto_region 2 with fail
 generalize hW : World.alloc (World.alloc (World.alloc w _) _) _ = W
 have Y0 : B16 W w.heap.size y := hW ▸ ((Blk.new w _ _).alloc _).alloc _
 have H0 : B16 W (w.heap.size + 1) h := hW ▸ (Blk.new' (by simp) _ _).alloc _
 have R0 : B16 W (w.heap.size + 1 + 1) (fun _ => 0) := hW ▸ Blk.new' (by simp) _ (Iv .u8 (NI (LB fun _ => 0)))
 have hB : Below w.heap.size w W := hW ▸ (((Below.refl w.heap.size w).alloc (Nat.le_refl _) _).alloc (by simp) _).alloc (by simp; omega) _
 have hS : HS w (.slice p n c) l (hashF y h l 0) h W := ⟨Y0, H0, R0, hs.below hB, hB⟩
 clear hW Y0 H0 R0 hB
 go_loopw [7] (fun i wr => ∃ j I : Nat, I = 16 * j ∧ j ≤ (n + 15) / 16 ∧ i = .int .i64 (I : Int) ∧ HS w (.slice p n c) l (hashF y h l j) h wr) (fun i _ => (n + 16 - intOf i).toNat)
 case atStart => exact ⟨0, 0, rfl, by omega, rfl, hS⟩
 case round =>
  clear hS
  obtain ⟨j, I, hI, hj, rfl, hS⟩ := hrel
  by_cases hjn : I < n
  ·
   have l1 : (I : Int) < (n : Int) := by omega
   have lj : j + 1 ≤ (n + 15) / 16 := by omega
   have hY := hashF_lt (l := l) hy hh j
   have HH := Lib.hid (hashF_s y h l j)
   generalize hashF y h l j = Y at *
   have HI := Lib.hid hI
   have LI : I ≤ 1000000 := by omega
   clear hI hj hy
   have q1 : IntKind.i64.wrap ((I : Int) + 16) = (I : Int) + 16 := by rw [IntKind.wrap_i64]; omega
   have q2 : wrap64 ((I : Int) + 16) = (I : Int) + 16 := by unfold wrap64; omega
   obtain ⟨g, o, rfl, hba⟩ : ∃ g o, p = some ⟨g, o, none⟩ ∧ BA w g o l := by
    rcases hs.at_ with h0 | h0
    · omega
    · exact h0
   go_upto_region 5 with fail
   go_loopw [8] (fun i wr => ∃ m : Nat, m ≤ 16 ∧ I + m ≤ n ∧ i = .int .i64 ((I + m : Nat) : Int) ∧ HS w (.slice (some ⟨g, o, none⟩) n c) l (MX (joinF Y l j) Y m) h wr) (fun i _ => (n + 1 - intOf i).toNat)
   case atStart => exact ⟨0, by omega, by omega, rfl, hS.congr fun i _ => (if_neg (by omega)).symm⟩
   case round =>
    clear hS
    obtain ⟨m, g1, g2, rfl, hS⟩ := hrel
    obtain ⟨kk, hkk⟩ : ∃ kk, kk = I + m := ⟨_, rfl⟩
    rw [← hkk] at g2 ⊢
    have k0 : (0 : Int) ≤ (kk : Int) := by omega
    by_cases b1 : m < 16 ∧ kk < n
    ·
     have c1 : (kk : Int) < (I : Int) + 16 := by omega
     have c2 : (kk : Int) < (n : Int) := by omega
     have m16 : m < 16 := b1.1
     have m1 : (m : Int) < 16 := by omega
     have m0 : (0 : Int) ≤ (m : Int) := by omega
     have t1 : IntKind.i64.wrap ((kk : Int) - (I : Int)) = (m : Int) := by rw [IntKind.wrap_i64]; omega
     have t2 : wrap64 ((kk : Int) - (I : Int)) = (m : Int) := by unfold wrap64; omega
     obtain ⟨x, hx⟩ : ∃ x, x = l.getD kk 0 := ⟨_, rfl⟩
     have lx : x < 256 := hx ▸ Bytes.getD bl kk
     have en : joinF Y l j m = Y m ^^^ x := by
      unfold joinF
      rw [hx, show 16 * j + m = kk by have := HI.out; omega]
     have hkl : kk < l.length := by rw [← HN.out]; exact b1.2
     have cx : ∀ w' : World, Below w.heap.size w w' → w'.cell? ⟨g, o + kk, none⟩ = some (.int .u8 ((x : Nat) : Int)) := fun w' b' => by
      rw [(hba.below b').cell kk hkl, hx]
      simp [hkl]
     have ex := xor_u8 (Y m) x (hY m) lx
     have EN := Lib.hid en
     have CX := Lib.hid cx
     have HKK := Lib.hid hkk
     clear en cx hx hkk b1 hkl
     go_upto_region 7 with fail
     rename_i aK
     refine wp_region_Z (S := HS w (.slice (some ⟨g, o, none⟩) n c) l (MX (joinF Y l j) Y m) h) 14 (by kernel_rfl) ?_
     replace hS := hS.drew
     generalize World.drew _ = V at hS ⊢
     refine wpAnyZ_takeL 0 rfl (by kernel_rfl) (by kernel_rfl) (by kernel_rfl) (by kernel_rfl) (by kernel_rfl) (fun _ _ _ h => h) (yieldsIf_move rfl _ rfl (.int .i64 (kk : Int)) rfl) hS ?_
     simp only [Act.put, List.setIfInBounds_toArray, List.set_cons_zero, List.set_cons_succ]
     refine wpAnyZ_takeL 1 rfl (by kernel_rfl) (by kernel_rfl) (by kernel_rfl) (by kernel_rfl) (by kernel_rfl) (fun _ _ _ h => h) (yieldsIf_move rfl _ rfl (.int .i64 (I : Int)) rfl) hS ?_
     simp only [Act.put, List.setIfInBounds_toArray, List.set_cons_zero, List.set_cons_succ]
     refine wpAnyZ_takeL 2 (v := (.int .i64 (m : Int))) rfl (by kernel_rfl) (by kernel_rfl) (by kernel_rfl) (by kernel_rfl) (by kernel_rfl) (fun _ _ _ h => h) (Or.inl ⟨by rfl, ?_⟩) hS ?_
     ·
      intro w' hw'
      go_simp
     simp only [Act.put, List.setIfInBounds_toArray, List.set_cons_zero, List.set_cons_succ]
     refine wpAnyZ_takeL 3 rfl (by kernel_rfl) (by kernel_rfl) (by kernel_rfl) (by kernel_rfl) (by kernel_rfl) (fun _ _ _ h => h) (yieldsIf_move rfl _ rfl (.int .i64 (kk : Int)) rfl) hS ?_
     simp only [Act.put, List.setIfInBounds_toArray, List.set_cons_zero, List.set_cons_succ]
     refine wpAnyZ_takeL 4 rfl (by kernel_rfl) (by kernel_rfl) (by kernel_rfl) (by kernel_rfl) (by kernel_rfl) (fun _ _ _ h => h) (yieldsIf_move rfl _ rfl (.int .i64 (I : Int)) rfl) hS ?_
     simp only [Act.put, List.setIfInBounds_toArray, List.set_cons_zero, List.set_cons_succ]
     refine wpAnyZ_takeL 5 (v := (.int .i64 (m : Int))) rfl (by kernel_rfl) (by kernel_rfl) (by kernel_rfl) (by kernel_rfl) (by kernel_rfl) (fun _ _ _ h => h) (Or.inl ⟨by rfl, ?_⟩) hS ?_
     ·
      intro w' hw'
      go_simp
     simp only [Act.put, List.setIfInBounds_toArray, List.set_cons_zero, List.set_cons_succ]
     refine wpAnyZ_takeL 6 (v := (.pointer (some ⟨w.heap.size, m, none⟩))) rfl (by kernel_rfl) (by kernel_rfl) (by kernel_rfl) (by kernel_rfl) (by kernel_rfl) (fun _ _ _ h => h) (Or.inl ⟨by rfl, ?_⟩) hS ?_
     ·
      intro w' hw'
      go_simp
     simp only [Act.put, List.setIfInBounds_toArray, List.set_cons_zero, List.set_cons_succ]
     refine wpAnyZ_takeL 7 (v := (.int .u8 ((Y m : Nat) : Int))) rfl (by kernel_rfl) (by kernel_rfl) (by kernel_rfl) (by kernel_rfl) (by kernel_rfl) (fun _ _ _ h => h) (Or.inl ⟨by rfl, ?_⟩) hS ?_
     ·
      intro w' hw'
      have c := hw'.y.cell m m16
      rw [MX_old] at c
      go_simp
     simp only [Act.put, List.setIfInBounds_toArray, List.set_cons_zero, List.set_cons_succ]
     refine wpAnyZ_takeL 8 rfl (by kernel_rfl) (by kernel_rfl) (by kernel_rfl) (by kernel_rfl) (by kernel_rfl) (fun _ _ _ h => h) (yieldsIf_move rfl _ rfl (.slice (some ⟨g, o, none⟩) n c) rfl) hS ?_
     simp only [Act.put, List.setIfInBounds_toArray, List.set_cons_zero, List.set_cons_succ]
     refine wpAnyZ_takeL 9 rfl (by kernel_rfl) (by kernel_rfl) (by kernel_rfl) (by kernel_rfl) (by kernel_rfl) (fun _ _ _ h => h) (yieldsIf_move rfl _ rfl (.int .i64 (kk : Int)) rfl) hS ?_
     simp only [Act.put, List.setIfInBounds_toArray, List.set_cons_zero, List.set_cons_succ]
     refine wpAnyZ_takeL 10 (v := (.pointer (some ⟨g, o + kk, none⟩))) rfl (by kernel_rfl) (by kernel_rfl) (by kernel_rfl) (by kernel_rfl) (by kernel_rfl) (fun _ _ _ h => h) (Or.inl ⟨by rfl, ?_⟩) hS ?_
     ·
      intro w' hw'
      go_simp
     simp only [Act.put, List.setIfInBounds_toArray, List.set_cons_zero, List.set_cons_succ]
     refine wpAnyZ_takeL 11 (v := (.int .u8 (x : Int))) rfl (by kernel_rfl) (by kernel_rfl) (by kernel_rfl) (by kernel_rfl) (by kernel_rfl) (fun _ _ _ h => h) (Or.inl ⟨by rfl, ?_⟩) hS ?_
     ·
      intro w' hw'
      have c := CX.out _ hw'.bl
      go_simp
     simp only [Act.put, List.setIfInBounds_toArray, List.set_cons_zero, List.set_cons_succ]
     refine wpAnyZ_takeL 12 (v := (.int .u8 ((Y m ^^^ x : Nat) : Int))) rfl (by kernel_rfl) (by kernel_rfl) (by kernel_rfl) (by kernel_rfl) (by kernel_rfl) (fun _ _ _ h => h) (Or.inl ⟨by rfl, ?_⟩) hS ?_
     ·
      intro w' hw'
      go_simp
     simp only [Act.put, List.setIfInBounds_toArray, List.set_cons_zero, List.set_cons_succ]
     refine wpAnyZ_takeL 13 (v := (.pointer (some ⟨w.heap.size, m, none⟩))) rfl (by kernel_rfl) (by kernel_rfl) (by kernel_rfl) (by kernel_rfl) (by kernel_rfl) (fun _ _ _ h => h) (Or.inl ⟨by rfl, ?_⟩) hS ?_
     ·
      intro w' hw'
      go_simp
     simp only [Act.put, List.setIfInBounds_toArray, List.set_cons_zero, List.set_cons_succ]
     have hN := HS.setY hs hS m (MX (joinF Y l j) Y (m + 1)) m16 (MX_step _ _ m)
     rw [MX_new, EN.out] at hN
     have cp := hS.y.cell m m16
     have fp := Blk.frozen hS.y m
     refine zcellZ 14 rfl rfl (by kernel_rfl) (by kernel_rfl) _ (fun K hK => wp_store_int _ _ _ rfl rfl (by kernel_rfl) (w.heap.size) m .u8 ((Y m ^^^ x : Nat) : Int) rfl rfl _ cp fp hK) ?_
     refine wpAnyZ_done (by kernel_rfl) ?_ _
     refine aK _ _ ?_
     clear aK cp fp hS t1 t2 ex
     generalize World.setCell V _ _ = U at *
     have w1 : wrap64 ((kk : Int) + 1) = (kk : Int) + 1 := by unfold wrap64; omega
     go_wp2
     exact ⟨⟨m + 1, by omega, by have := HKK.out; omega, by congr 1; have := HKK.out; omega, hN⟩, by simp only [intOf]; omega⟩
    ·
     by_cases c1' : m = 16
     ·
      have c1 : ¬ (kk : Int) < (I : Int) + 16 := by omega
      have c2 : m = 16 ∨ kk = n := Or.inl c1'
      clear b1 c1'
      have hb := (rblock_f (joinF Y l j) h (joinF_lt hY bl j) hh)
      have CB := Lib.hid hb
      clear hb
      replace hS := hS.congr (y' := joinF Y l j) (fun i hi => by
       unfold MX
       by_cases him : i < m
       · rw [if_pos him]
       ·
        rw [if_neg him]
        unfold joinF
        have := HI.out
        have := HN.out
        rw [List.getD_eq_getElem?_getD, List.getElem?_eq_none (by omega)]
        exact (Nat.xor_zero _).symm)
      have HT := HH.out
      rw [← HT] at CB
      clear HT
      have hj1 := hashF_lt (l := l) (y := y) (h := h)
      go_wp2_with (first | (refine wpList_load_row rfl 26 _ rfl w.heap.size rfl 26 _ (0, 0) _ hS.y Tryd.underlying26 rfl (info_nl _) ?_) | (refine wpList_load_row rfl 26 _ rfl (w.heap.size + 1) rfl 26 _ (0, 0) _ hS.h Tryd.underlying26 rfl (info_nl _) ?_))
      refine (CB.out _).mono ?_
      rintro _ w9 ⟨rfl, b9⟩
      replace hS := hS.below b9
      clear b9 CB hj1
      have hT := HS.rowY hs hS (hashF y h l (j + 1))
      go_wp2_with (refine wpList_store_row rfl 26 _ _ rfl w.heap.size (Iv .u8 (NI (LB (hashF y h l (j + 1))))) rfl rfl 26 _ hS.y (info_nl _) (by rw [Iv_size, Iv_size, NI_length, NI_length, LB_length, LB_length]) (Iv_one _ _) ?_)
      exact ⟨⟨j + 1, I + 16, by have := HI.out; omega, lj, by congr 1, hT⟩, by simp only [intOf]; omega⟩
     ·
      have c1 : (kk : Int) < (I : Int) + 16 := by omega
      have c3 : ¬ (kk : Int) < (n : Int) := by omega
      have c2 : m = 16 ∨ kk = n := Or.inr (by omega)
      clear b1 c1'
      have hb := (rblock_f (joinF Y l j) h (joinF_lt hY bl j) hh)
      have CB := Lib.hid hb
      clear hb
      replace hS := hS.congr (y' := joinF Y l j) (fun i hi => by
       unfold MX
       by_cases him : i < m
       · rw [if_pos him]
       ·
        rw [if_neg him]
        unfold joinF
        have := HI.out
        have := HN.out
        rw [List.getD_eq_getElem?_getD, List.getElem?_eq_none (by omega)]
        exact (Nat.xor_zero _).symm)
      have HT := HH.out
      rw [← HT] at CB
      clear HT
      have hj1 := hashF_lt (l := l) (y := y) (h := h)
      go_wp2_with (first | (refine wpList_load_row rfl 26 _ rfl w.heap.size rfl 26 _ (0, 0) _ hS.y Tryd.underlying26 rfl (info_nl _) ?_) | (refine wpList_load_row rfl 26 _ rfl (w.heap.size + 1) rfl 26 _ (0, 0) _ hS.h Tryd.underlying26 rfl (info_nl _) ?_))
      refine (CB.out _).mono ?_
      rintro _ w9 ⟨rfl, b9⟩
      replace hS := hS.below b9
      clear b9 CB hj1
      have hT := HS.rowY hs hS (hashF y h l (j + 1))
      go_wp2_with (refine wpList_store_row rfl 26 _ _ rfl w.heap.size (Iv .u8 (NI (LB (hashF y h l (j + 1))))) rfl rfl 26 _ hS.y (info_nl _) (by rw [Iv_size, Iv_size, NI_length, NI_length, LB_length, LB_length]) (Iv_one _ _) ?_)
      exact ⟨⟨j + 1, I + 16, by have := HI.out; omega, lj, by congr 1, hT⟩, by simp only [intOf]; omega⟩
  ·
   have l1 : ¬ (I : Int) < (n : Int) := by omega
   have ej : j = (n + 15) / 16 := by omega
   rw [ej] at hS
   clear hI hj ej
   go_wp2_with (first | (refine wpList_load_row rfl 26 _ rfl w.heap.size rfl 26 _ (0, 0) _ hS.y Tryd.underlying26 rfl (info_nl _) ?_) | (refine wpList_store_row rfl 26 _ _ rfl (w.heap.size + 1 + 1) (Iv .u8 (NI (LB (hashF y h l ((n + 15) / 16))))) rfl rfl 26 _ hS.r (info_nl _) (by rw [Iv_size, Iv_size, NI_length, NI_length, LB_length, LB_length]) (Iv_one _ _) ?_))
   exact bodyPost_ret (results_cell_row rfl _ _ _ 26 _ (0, 0) _ rfl (Blk.row hS.r _) Tryd.underlying26 rfl (info_nl _)) rfl ⟨rfl, below_setRow hS.bl (by omega) _⟩
end Go.Proofs.YtpihgljdbpnehaaDoor
