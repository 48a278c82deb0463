/- The reference's Block: its contract. The reference's counter: its contract. The reference's hash: what memory holds, what it reckons. Sealing and opening as plain arithmetic. -/
import Derived.Test.YtpihgljdbpnehaaDoorBj0Ga
namespace Go.Proofs.YtpihgljdbpnehaaDoor
open Go.RowKit
set_option maxHeartbeats 8000000 in
set_option maxRecDepth 100000 in
theorem rblock_f (a b : Nat → Nat) (ha : ∀ i, a i < 256) (hb : ∀ i, b i < 256) (w : World) :
  Calls Tryd.prog 74 #[.agg (Iv .u8 (NI (LB a))), .agg (Iv .u8 (NI (LB b)))] w fun e w' => e = .returned (.agg (Iv .u8 (NI (LB (timesF a b))))) ∧ Below w.heap.size w w' := by
 go_enter Tryd.func74, Tryd.ntmps74
 go_upto_region 2 with fail
 generalize hW : World.alloc (World.alloc (World.alloc (World.alloc w _) _) _) _ = W
 have A0 : B16 W w.heap.size a := hW ▸ (((Blk.new' (by simp) _ _).alloc _).alloc _).alloc _
 have B0 : B16 W (w.heap.size + 1) b := hW ▸ ((Blk.new' (by simp) _ _).alloc _).alloc _
 have R0 : B16 W (w.heap.size + 1 + 1) (fun _ => 0) := hW ▸ (Blk.new' (by simp) _ (Iv .u8 (NI (LB fun _ => 0)))).alloc _
 have P0 : B16 W (w.heap.size + 1 + 1 + 1) (fun _ => 0) := hW ▸ Blk.new' (by simp) _ (Iv .u8 (NI (LB fun _ => 0)))
 have hB : Below w.heap.size w W := hW ▸ ((((Below.refl w.heap.size w).alloc (Nat.le_refl _) _).alloc (by simp) _).alloc (by simp; omega) _).alloc (by simp; omega) _
 have hS : GS w a (gbF b 0) (gpF a b 0) W := ⟨A0, B0, R0, P0, hB⟩
 clear hW A0 B0 R0 P0 hB
 go_wp2
 go_loopw [6] (fun i wr => ∃ k : Nat, k ≤ 128 ∧ i = .int .i64 (k : Int) ∧ GS w a (gbF b k) (gpF a b k) wr) (fun i _ => (128 - intOf i).toNat)
 case atStart => exact ⟨0, by omega, rfl, hS⟩
 case round =>
  clear hS
  obtain ⟨k, hk, rfl, hS⟩ := hrel
  by_cases h128 : k = 128
  ·
   subst h128
   go_upto_region 19 with fail
   refine wp_region_seq ?_
   refine wpSeq_yield (S := GS w a (gbF b 128) (gpF a b 128)) (yieldsIf_row_wanted rfl 26 _ rfl (w.heap.size + 1 + 1 + 1) rfl 26 _ _ (fun _ h => h.p) Tryd.underlying26 rfl (info_16 _)) hS ?_
   simp only [Act.put, List.setIfInBounds_toArray, List.set_cons_zero, List.set_cons_succ]
   refine wpSeq_store_row rfl 26 _ _ rfl (w.heap.size + 1 + 1) (Iv .u8 (NI (LB (gpF a b 128)))) rfl rfl 26 _ hS.r (info_16 _) (by rw [Iv_size, Iv_size, NI_length, NI_length, LB_length, LB_length]) (Iv_one _ _) ?_
   refine wpSeq_nil ?_
   have RR := Blk.row hS.r (Iv .u8 (NI (LB (gpF a b 128))))
   have BB := below_setRow hS.bl (g := w.heap.size + 1 + 1) (by omega) (Iv .u8 (NI (LB (gpF a b 128))))
   generalize World.setRow _ _ _ = V at *
   go_wp2
   refine bodyPost_ret (results_cell_row rfl _ _ _ 26 _ (0, 0) _ rfl RR Tryd.underlying26 rfl (info_16 _)) ?_ ?_
   · rfl
   · exact ⟨rfl, BB⟩
  ·
   have hb1 := gbF_lt hb k
   have hp1 := gpF_lt (a := a) hb k
   have eb : gbF b (k + 1) = gturnF (gbF b k) := rfl
   have ep : gpF a b (k + 1) = fun i => if a (k / 8) / 2 ^ (7 - k % 8) % 2 = 1 then gpF a b k i ^^^ gbF b k i else gpF a b k i := rfl
   have ca := hS.a.cell (k / 8) (by omega)
   have la := ha (k / 8)
   generalize a (k / 8) = X at *
   generalize gbF b k = F at *
   generalize gpF a b k = P at *
   have HB := Lib.hid eb
   have HP := Lib.hid ep
   clear eb ep
   obtain ⟨q, hq⟩ : ∃ q, q = k / 8 := ⟨_, rfl⟩
   obtain ⟨m, hm⟩ : ∃ m, m = k % 8 := ⟨_, rfl⟩
   obtain ⟨r, hr⟩ : ∃ r, r = 7 - m := ⟨_, rfl⟩
   obtain ⟨Y, hY⟩ : ∃ Y, Y = X / 2 ^ r := ⟨_, rfl⟩
   have lY : Y < 256 := by rw [hY]; exact Nat.lt_of_le_of_lt (Nat.div_le_self _ _) la
   have lq : q < 16 := by omega
   rw [← hm, ← hr, ← hY] at HP
   have t1 : (k : Int).tdiv 8 = (q : Int) := by rw [Int.tdiv_eq_ediv_of_nonneg (by omega)]; omega
   have t2 : (k : Int).tmod 8 = (m : Int) := by rw [Int.tmod_eq_emod_of_nonneg (by omega)]; omega
   have t3 : IntKind.i64.wrap (7 - (m : Int)) = (r : Int) := by rw [IntKind.wrap_i64]; omega
   have t3' : wrap64 (7 - (m : Int)) = (r : Int) := by unfold wrap64; omega
   have t4 : (X : Int) / 2 ^ r = (Y : Int) := by rw [hY]; push_cast; rfl
   have t5 : bits .and .u8 (Y : Int) 1 = ((Y % 2 : Nat) : Int) := and1_u8 Y lY
   have y1 : IntKind.i64.wrap (q : Int) = (q : Int) := by rw [IntKind.wrap_i64]; omega
   have y2 : IntKind.i64.wrap (m : Int) = (m : Int) := by rw [IntKind.wrap_i64]; omega
   have t6 : min r 8 = r := by omega
   have lq1 : (q : Int) < 16 := by omega
   have lq0 : (0 : Int) ≤ (q : Int) := by omega
   have lr0 : (0 : Int) ≤ (r : Int) := by omega
   have l1 : (k : Int) < 128 := by omega
   rw [← hq] at ca
   clear hq hm hr hY
   go_upto_region 5 with fail
   refine wp_region_seq ?_
   refine wpSeq_yield (S := GS w a F P) (yieldsIf_move rfl _ rfl (.int .i64 (k : Int)) rfl) hS ?_
   simp only [Act.put, List.setIfInBounds_toArray, List.set_cons_zero, List.set_cons_succ]
   refine wpSeq_yield (S := GS w a F P) (v := .int .i64 (q : Int)) (Or.inl ⟨by rfl, ?_⟩) hS ?_
   ·
    intro w' hw'
    go_simp
   simp only [Act.put, List.setIfInBounds_toArray, List.set_cons_zero, List.set_cons_succ]
   refine wpSeq_yield (S := GS w a F P) (v := .pointer (some ⟨w.heap.size, q, none⟩)) (Or.inl ⟨by rfl, ?_⟩) hS ?_
   ·
    intro w' hw'
    go_simp
   simp only [Act.put, List.setIfInBounds_toArray, List.set_cons_zero, List.set_cons_succ]
   refine wpSeq_yield (S := fun W => W = wr) (v := .int .u8 (X : Int)) (Or.inl ⟨by rfl, ?_⟩) rfl ?_
   ·
    intro w' hw'
    subst hw'
    go_simp
   simp only [Act.put, List.setIfInBounds_toArray, List.set_cons_zero, List.set_cons_succ]
   refine wpSeq_yield (S := GS w a F P) (yieldsIf_move rfl _ rfl (.int .i64 (k : Int)) rfl) hS ?_
   simp only [Act.put, List.setIfInBounds_toArray, List.set_cons_zero, List.set_cons_succ]
   refine wpSeq_yield (S := GS w a F P) (v := .int .i64 (m : Int)) (Or.inl ⟨by rfl, ?_⟩) hS ?_
   ·
    intro w' hw'
    go_simp
   simp only [Act.put, List.setIfInBounds_toArray, List.set_cons_zero, List.set_cons_succ]
   refine wpSeq_yield (S := GS w a F P) (v := .int .i64 (r : Int)) (Or.inl ⟨by rfl, ?_⟩) hS ?_
   ·
    intro w' hw'
    go_simp
   simp only [Act.put, List.setIfInBounds_toArray, List.set_cons_zero, List.set_cons_succ]
   refine wpSeq_yield (S := GS w a F P) (v := .int .u8 (Y : Int)) (Or.inl ⟨by rfl, ?_⟩) hS ?_
   ·
    intro w' hw'
    go_simp
   simp only [Act.put, List.setIfInBounds_toArray, List.set_cons_zero, List.set_cons_succ]
   refine wpSeq_yield (S := GS w a F P) (v := .int .u8 ((Y % 2 : Nat) : Int)) (Or.inl ⟨by rfl, ?_⟩) hS ?_
   ·
    intro w' hw'
    go_simp
   simp only [Act.put, List.setIfInBounds_toArray, List.set_cons_zero, List.set_cons_succ]
   clear t1 t2 t3 t3' t4 t5 t6 y1 y2
   by_cases hbit : Y % 2 = 1
   ·
    have hbi : ((Y % 2 : Nat) : Int) = 1 := by omega
    refine wpSeq_yield (S := GS w a F P) (v := .bool true) (Or.inl ⟨by rfl, ?_⟩) hS ?_
    ·
     intro w' hw'
     go_simp
    simp only [Act.put, List.setIfInBounds_toArray, List.set_cons_zero, List.set_cons_succ]
    have HBit := Lib.hid hbit
    clear hbi hbit
    refine wpSeq_nil ?_
    go_wp2
    go_loopw [7] (fun i wr => ∃ j : Nat, j ≤ 16 ∧ i = .int .i64 (j : Int) ∧ GS w a F (MX (fun i => P i ^^^ F i) P j) wr) (fun i _ => (16 - intOf i).toNat)
    case atStart => exact ⟨0, by omega, rfl, hS.congr (fun _ _ => rfl) (fun i _ => (if_neg (by omega)).symm)⟩
    case round =>
     clear hS
     obtain ⟨j, hj, rfl, hT⟩ := hrel
     by_cases j16 : j = 16
     ·
      subst j16
      have hT2 : GS w a F (fun i => P i ^^^ F i) _ := hT.congr (fun _ _ => rfl) (fun i hi => if_pos hi)
      clear hT
      go_wp2
      go_loopw [8, 9] (fun c i wr => ∃ j : Nat, j ≤ 16 ∧ i = .int .i64 (j : Int) ∧ c = .int .u8 ((cF F j : Nat) : Int) ∧ GS w a (MX (shF F) F j) (fun i => P i ^^^ F i) wr) (fun _ i _ => (16 - intOf i).toNat)
      case atStart => exact ⟨0, by omega, rfl, rfl, hT2.congr (fun i _ => (if_neg (by omega)).symm) (fun _ _ => rfl)⟩
      case round =>
       clear hT2
       obtain ⟨j, hj, rfl, rfl, hU⟩ := hrel
       by_cases j16 : j = 16
       ·
        subst j16
        have hV : GS w a (shF F) (fun i => P i ^^^ F i) _ := hU.congr (fun i hi => if_pos hi) (fun _ _ => rfl)
        clear hU
        have e0 : cF F 16 = F 15 % 2 := rfl
        rw [e0]
        by_cases hc : F 15 % 2 = 1
        ·
         rw [hc]
         have c0 := hV.b.cell 0 (by omega)
         have f0 := Blk.frozen hV.b 0
         have ls := shF_lt hb1 0
         have ex := xor_u8 (shF F 0) 225 ls (by decide)
         have et : gturnF F 0 = shF F 0 ^^^ 225 := if_pos ⟨rfl, hc⟩
         rw [← et] at ex
         have hN := hV.setB 0 (gturnF F) (by omega) (fun i hi => if_neg (fun h => hi h.1))
         clear hV et
         generalize shF F 0 = s0 at *
         generalize gturnF F 0 = t0 at *
         rw [show ((225 : Nat) : Int) = 225 from rfl] at ex
         go_wp2
         exact ⟨⟨k + 1, by omega, rfl, by rw [HB.out, HP.out]; exact hN.congr (fun _ _ => rfl) (fun i _ => (if_pos HBit.out).symm)⟩, by simp only [intOf]; omega⟩
        ·
         have hc0 : F 15 % 2 = 0 := by omega
         rw [hc0]
         go_wp2
         exact ⟨⟨k + 1, by omega, rfl, by rw [HB.out, HP.out]; exact hV.congr (fun i _ => (if_neg (fun h => hc h.2)).symm) (fun i _ => (if_pos HBit.out).symm)⟩, by simp only [intOf]; omega⟩
       ·
        have j1 : (j : Int) < 16 := by omega
        have j0 : (0 : Int) ≤ (j : Int) := by omega
        have cj := hU.b.cell j (by omega)
        rw [show MX (shF F) F j j = F j from if_neg (by omega)] at cj
        have fj := Blk.frozen hU.b j
        have lj := hb1 j
        have lc := cF_lt F j
        have hN := hU.setB j (MX (shF F) F (j + 1)) (by omega) (fun i hi => by unfold MX; by_cases hik : i < j <;> simp [hik] <;> omega)
        have en : MX (shF F) F (j + 1) j = F j / 2 + cF F j * 128 := (if_pos (by omega)).trans rfl
        rw [en] at hN
        have e1 := or_high (F j / 2) (cF F j) (by omega) lc
        have e2 := and1_u8 (F j) lj
        have en2 : cF F (j + 1) = F j % 2 := if_neg (by omega)
        have e3 : IntKind.u8.wrap ((cF F j : Int) * 2 ^ 7) = ((cF F j * 128 : Nat) : Int) := by rw [IntKind.wrap_u8]; omega
        have e4 : (F j : Int) / 2 ^ 1 = ((F j / 2 : Nat) : Int) := by omega
        have fin : GS w a (MX (shF F) F (j + 1)) (fun i => P i ^^^ F i) _ := hN
        clear hN en hU
        have EN := Lib.hid en2
        clear en2
        generalize cF F j = C at *
        generalize hFj : F j = Z at *
        generalize hZ1 : Z % 2 = Z1 at *
        have e5 : bits .or .u8 ((Z : Int) / 2) ((C : Int) * 128) = ((Z / 2 + C * 128 : Nat) : Int) := by rw [← e1]; congr 1
        clear hFj hZ1 e1
        go_wp2
        try rw [e5]
        exact ⟨⟨j + 1, by omega, rfl, by rw [EN.out], fin⟩, by simp only [intOf]; omega⟩
     ·
      have j1 : (j : Int) < 16 := by omega
      have j0 : (0 : Int) ≤ (j : Int) := by omega
      have em : MX (fun i => P i ^^^ F i) P j j = P j := if_neg (by omega)
      have lx := hp1 j
      have lz := hb1 j
      have ex := xor_u8 (P j) (F j) lx lz
      have en : MX (fun i => P i ^^^ F i) P (j + 1) j = P j ^^^ F j := if_pos (by omega)
      have EM := Lib.hid em
      have EN := Lib.hid en
      clear em en
      go_upto_region 9 with fail
      replace hT := hT.drew
      refine wp_region_Z (S := GS w a F (MX (fun i => P i ^^^ F i) P j)) 9 (by kernel_rfl) ?_
      refine wpAnyZ_takeL 0 rfl (by kernel_rfl) (by kernel_rfl) (by kernel_rfl) (by kernel_rfl) (by kernel_rfl) (fun _ _ _ h => h) (yieldsIf_move rfl _ rfl (.int .i64 (j : Int)) rfl) hT ?_
      simp only [Act.put, List.setIfInBounds_toArray, List.set_cons_zero, List.set_cons_succ]
      refine wpAnyZ_takeL 1 rfl (by kernel_rfl) (by kernel_rfl) (by kernel_rfl) (by kernel_rfl) (by kernel_rfl) (fun _ _ _ h => h) (yieldsIf_move rfl _ rfl (.int .i64 (j : Int)) rfl) hT ?_
      simp only [Act.put, List.setIfInBounds_toArray, List.set_cons_zero, List.set_cons_succ]
      refine wpAnyZ_takeL 2 (v := .pointer (some ⟨w.heap.size + 1 + 1 + 1, j, none⟩)) rfl (by kernel_rfl) (by kernel_rfl) (by kernel_rfl) (by kernel_rfl) (by kernel_rfl) (fun _ _ _ h => h) (Or.inl ⟨by rfl, ?_⟩) hT ?_
      ·
       intro w' hw'
       go_simp
      simp only [Act.put, List.setIfInBounds_toArray, List.set_cons_zero, List.set_cons_succ]
      refine wpAnyZ_takeL 3 (v := .int .u8 ((P j : Nat) : Int)) rfl (by kernel_rfl) (by kernel_rfl) (by kernel_rfl) (by kernel_rfl) (by kernel_rfl) (fun _ _ _ h => h) (Or.inl ⟨by rfl, ?_⟩) hT ?_
      ·
       intro w' hw'
       have c := hw'.p.cell j (by omega)
       rw [EM.out] at c
       go_simp
      simp only [Act.put, List.setIfInBounds_toArray, List.set_cons_zero, List.set_cons_succ]
      refine wpAnyZ_takeL 4 rfl (by kernel_rfl) (by kernel_rfl) (by kernel_rfl) (by kernel_rfl) (by kernel_rfl) (fun _ _ _ h => h) (yieldsIf_move rfl _ rfl (.int .i64 (j : Int)) rfl) hT ?_
      simp only [Act.put, List.setIfInBounds_toArray, List.set_cons_zero, List.set_cons_succ]
      refine wpAnyZ_takeL 5 (v := .pointer (some ⟨w.heap.size + 1, j, none⟩)) rfl (by kernel_rfl) (by kernel_rfl) (by kernel_rfl) (by kernel_rfl) (by kernel_rfl) (fun _ _ _ h => h) (Or.inl ⟨by rfl, ?_⟩) hT ?_
      ·
       intro w' hw'
       go_simp
      simp only [Act.put, List.setIfInBounds_toArray, List.set_cons_zero, List.set_cons_succ]
      refine wpAnyZ_takeL 6 (v := .int .u8 ((F j : Nat) : Int)) rfl (by kernel_rfl) (by kernel_rfl) (by kernel_rfl) (by kernel_rfl) (by kernel_rfl) (fun _ _ _ h => h) (Or.inl ⟨by rfl, ?_⟩) hT ?_
      ·
       intro w' hw'
       have c := hw'.b.cell j (by omega)
       go_simp
      simp only [Act.put, List.setIfInBounds_toArray, List.set_cons_zero, List.set_cons_succ]
      refine wpAnyZ_takeL 7 (v := .int .u8 ((P j ^^^ F j : Nat) : Int)) rfl (by kernel_rfl) (by kernel_rfl) (by kernel_rfl) (by kernel_rfl) (by kernel_rfl) (fun _ _ _ h => h) (Or.inl ⟨by rfl, ?_⟩) hT ?_
      ·
       intro w' hw'
       go_simp
      simp only [Act.put, List.setIfInBounds_toArray, List.set_cons_zero, List.set_cons_succ]
      refine wpAnyZ_takeL 8 (v := .pointer (some ⟨w.heap.size + 1 + 1 + 1, j, none⟩)) rfl (by kernel_rfl) (by kernel_rfl) (by kernel_rfl) (by kernel_rfl) (by kernel_rfl) (fun _ _ _ h => h) (Or.inl ⟨by rfl, ?_⟩) hT ?_
      ·
       intro w' hw'
       go_simp
      simp only [Act.put, List.setIfInBounds_toArray, List.set_cons_zero, List.set_cons_succ]
      have cp := hT.p.cell j (by omega)
      rw [EM.out] at cp
      have fp := Blk.frozen hT.p j
      have hN := hT.setP j (MX (fun i => P i ^^^ F i) P (j + 1)) (by omega) (fun i hi => by unfold MX; by_cases hik : i < j <;> simp [hik] <;> omega)
      rw [EN.out] at hN
      refine wpAnyZ_one (i := 9) (by kernel_rfl) ?_
      unfold wpOp
      go_simp
      left
      refine wpAnyZ_done (by kernel_rfl) ?_ _
      clear cp fp hT
      go_wp2
      refine ⟨⟨.int .i64 ((j : Int) + 1), _, _, _, _, _, _, _, _, _, _, _, _, _, ⟨j + 1, by omega, rfl, hN⟩, rfl⟩, ?_⟩
      show (16 - intOf (.int .i64 ((j : Int) + 1))).toNat < (16 - intOf (.int .i64 (j : Int))).toNat
      simp only [intOf]
      omega
   ·
    have hbi : ¬ ((Y % 2 : Nat) : Int) = 1 := by omega
    have hbi2 : ¬ (Y : Int) % 2 = 1 := by omega
    refine wpSeq_yield (S := GS w a F P) (v := .bool false) (Or.inl ⟨by rfl, ?_⟩) hS ?_
    ·
     intro w' hw'
     go_simp
    simp only [Act.put, List.setIfInBounds_toArray, List.set_cons_zero, List.set_cons_succ]
    refine wpSeq_nil ?_
    go_wp2
    go_loopw [8, 9] (fun c i wr => ∃ j : Nat, j ≤ 16 ∧ i = .int .i64 (j : Int) ∧ c = .int .u8 ((cF F j : Nat) : Int) ∧ GS w a (MX (shF F) F j) P wr) (fun _ i _ => (16 - intOf i).toNat)
    case atStart => exact ⟨0, by omega, rfl, rfl, hS.congr (fun i _ => (if_neg (by omega)).symm) (fun _ _ => rfl)⟩
    case round =>
     clear hS
     obtain ⟨j, hj, rfl, rfl, hU⟩ := hrel
     by_cases j16 : j = 16
     ·
      subst j16
      have hV : GS w a (shF F) P _ := hU.congr (fun i hi => if_pos hi) (fun _ _ => rfl)
      clear hU
      have e0 : cF F 16 = F 15 % 2 := rfl
      rw [e0]
      by_cases hc : F 15 % 2 = 1
      ·
       rw [hc]
       have c0 := hV.b.cell 0 (by omega)
       have f0 := Blk.frozen hV.b 0
       have ls := shF_lt hb1 0
       have ex := xor_u8 (shF F 0) 225 ls (by decide)
       have et : gturnF F 0 = shF F 0 ^^^ 225 := if_pos ⟨rfl, hc⟩
       rw [← et] at ex
       have hN := hV.setB 0 (gturnF F) (by omega) (fun i hi => if_neg (fun h => hi h.1))
       clear hV et
       generalize shF F 0 = s0 at *
       generalize gturnF F 0 = t0 at *
       rw [show ((225 : Nat) : Int) = 225 from rfl] at ex
       go_wp2
       exact ⟨⟨k + 1, by omega, rfl, by rw [HB.out, HP.out]; exact hN.congr (fun _ _ => rfl) (fun i _ => (if_neg hbit).symm)⟩, by simp only [intOf]; omega⟩
      ·
       have hc0 : F 15 % 2 = 0 := by omega
       rw [hc0]
       go_wp2
       exact ⟨⟨k + 1, by omega, rfl, by rw [HB.out, HP.out]; exact hV.congr (fun i _ => (if_neg (fun h => hc h.2)).symm) (fun i _ => (if_neg hbit).symm)⟩, by simp only [intOf]; omega⟩
     ·
      have j1 : (j : Int) < 16 := by omega
      have j0 : (0 : Int) ≤ (j : Int) := by omega
      have cj := hU.b.cell j (by omega)
      rw [show MX (shF F) F j j = F j from if_neg (by omega)] at cj
      have fj := Blk.frozen hU.b j
      have lj := hb1 j
      have lc := cF_lt F j
      have hN := hU.setB j (MX (shF F) F (j + 1)) (by omega) (fun i hi => by unfold MX; by_cases hik : i < j <;> simp [hik] <;> omega)
      have en : MX (shF F) F (j + 1) j = F j / 2 + cF F j * 128 := (if_pos (by omega)).trans rfl
      rw [en] at hN
      have e1 := or_high (F j / 2) (cF F j) (by omega) lc
      have e2 := and1_u8 (F j) lj
      have en2 : cF F (j + 1) = F j % 2 := if_neg (by omega)
      have e3 : IntKind.u8.wrap ((cF F j : Int) * 2 ^ 7) = ((cF F j * 128 : Nat) : Int) := by rw [IntKind.wrap_u8]; omega
      have e4 : (F j : Int) / 2 ^ 1 = ((F j / 2 : Nat) : Int) := by omega
      have fin : GS w a (MX (shF F) F (j + 1)) P _ := hN
      clear hN en hU
      have EN := Lib.hid en2
      clear en2
      generalize cF F j = C at *
      generalize hFj : F j = Z at *
      generalize hZ1 : Z % 2 = Z1 at *
      have e5 : bits .or .u8 ((Z : Int) / 2) ((C : Int) * 128) = ((Z / 2 + C * 128 : Nat) : Int) := by rw [← e1]; congr 1
      clear hFj hZ1 e1
      go_wp2
      try rw [e5]
      exact ⟨⟨j + 1, by omega, rfl, by rw [EN.out], fin⟩, by simp only [intOf]; omega⟩
end Go.Proofs.YtpihgljdbpnehaaDoor
namespace Go.Proofs.YtpihgljdbpnehaaDoor
open Go.RowKit
/-- Twelve bytes by a function. -/
def L12 (f : Nat → Nat) : List Nat := (List.range 12).map f
theorem L12_length (f : Nat → Nat) : (L12 f).length = 12 := by simp [L12]
def N12 (w : World) (g : Nat) (f : Nat → Nat) : Prop := Blk w g 28 (Iv .u8 (NI (L12 f)))
theorem N12.cell {w : World} {g : Nat} {f : Nat → Nat} (h : N12 w g f) (i : Nat) (hi : i < 12) : w.cell? ⟨g, i, none⟩ = some (.int .u8 ((f i : Nat) : Int)) := by
 rw [Blk.cell h, NI_get _ _ (by rw [L12_length]; exact hi)]
 simp [L12]
/-- The counter block. -/
def counterF (f : Nat → Nat) (n i : Nat) : Nat := if i < 12 then f i else if i = 14 then n / 256 else if i = 15 then n % 256 else 0
theorem counterF_lt {f : Nat → Nat} (h : ∀ i, f i < 256) {n : Nat} (hn : n < 65536) (i : Nat) : counterF f n i < 256 := by
 unfold counterF
 have := h i
 split
 · exact this
 ·
  split
  · omega
  · split <;> omega
structure CS (w : World) (f p : Nat → Nat) (wr : World) : Prop where
 n : N12 wr w.heap.size f
 r : B16 wr (w.heap.size + 1) (fun _ => 0)
 p : B16 wr (w.heap.size + 1 + 1) p
 bl : Below w.heap.size w wr
theorem CS.setP {w wr : World} {f p : Nat → Nat} (h : CS w f p wr) (k : Nat) (p' : Nat → Nat) (hk : k < 16) (ho : ∀ i, i ≠ k → p' i = p i) : CS w f p' (wr.setCell ⟨w.heap.size + 1 + 1, k, none⟩ (.int .u8 ((p' k : Nat) : Int))) :=
 ⟨Eq.trans (heap_setCell_other wr _ _ _ (by dsimp only; omega)) h.n, h.r.of_block (heap_setCell_other wr _ _ _ (by dsimp only; omega)), h.p.set k p' hk ho, h.bl.setCell (p := ⟨w.heap.size + 1 + 1, k, none⟩) (by dsimp only; omega) _⟩
set_option maxHeartbeats 4000000 in
set_option maxRecDepth 100000 in
theorem rcounter_any (f : Nat → Nat) (_hf : ∀ i, f i < 256) (n : Nat) (hn : n < 65536) (w : World) :
  Calls Tryd.prog 51 #[.agg (Iv .u8 (NI (L12 f))), .int .i64 (n : Int)] w fun e w' => e = .returned (.agg (Iv .u8 (NI (LB (counterF f n))))) ∧ Below w.heap.size w w' := by
 go_enter Tryd.func51, Tryd.ntmps51
 go_upto_region 2 with fail
 generalize hW : World.alloc (World.alloc (World.alloc w _) _) _ = W
 have N0 : N12 W w.heap.size f := hW ▸ ((Blk.new' (by simp) _ _).alloc _).alloc _
 have R0 : B16 W (w.heap.size + 1) (fun _ => 0) := hW ▸ (Blk.new' (by simp) _ (Iv .u8 (NI (LB fun _ => 0)))).alloc _
 have P0 : B16 W (w.heap.size + 1 + 1) (MX f (fun _ => 0) 0) := hW ▸ Blk.new' (by simp) _ (Iv .u8 (NI (LB fun _ => 0)))
 have hB : Below w.heap.size w W := hW ▸ (((Below.refl w.heap.size w).alloc (Nat.le_refl _) _).alloc (by simp) _).alloc (by simp; omega) _
 have hS : CS w f (MX f (fun _ => 0) 0) W := ⟨N0, R0, P0, hB⟩
 clear hW N0 R0 P0 hB
 go_wp2
 go_loopw [6] (fun i wr => ∃ k : Nat, k ≤ 12 ∧ i = .int .i64 (k : Int) ∧ CS w f (MX f (fun _ => 0) k) wr) (fun i _ => (12 - intOf i).toNat)
 case atStart => exact ⟨0, by omega, rfl, hS⟩
 case round =>
  clear hS
  obtain ⟨k, hk, rfl, hS⟩ := hrel
  by_cases h12 : k = 12
  ·
   subst h12
   obtain ⟨q, hq⟩ : ∃ q, q = n / 256 := ⟨_, rfl⟩
   obtain ⟨m, hm⟩ : ∃ m, m = n % 256 := ⟨_, rfl⟩
   have lq : q < 256 := by omega
   have lm : m < 256 := by omega
   have t1 : (n : Int).tdiv 256 = (q : Int) := by rw [Int.tdiv_eq_ediv_of_nonneg (by omega)]; omega
   have t2 : (n : Int).tmod 256 = (m : Int) := by rw [Int.tmod_eq_emod_of_nonneg (by omega)]; omega
   have y1 : IntKind.u8.wrap (q : Int) = (q : Int) := by rw [IntKind.wrap_u8]; omega
   have y2 : IntKind.u8.wrap (m : Int) = (m : Int) := by rw [IntKind.wrap_u8]; omega
   have z1 : IntKind.i64.wrap (q : Int) = (q : Int) := by rw [IntKind.wrap_i64]; omega
   have z2 : IntKind.i64.wrap (m : Int) = (m : Int) := by rw [IntKind.wrap_i64]; omega
   have x1 : (q : Int) % 256 = (q : Int) := by omega
   have x2 : (m : Int) % 256 = (m : Int) := by omega
   have S1 : CS w f (fun i => if i = 14 then q else MX f (fun _ => 0) 12 i) (wr.setCell ⟨w.heap.size + 1 + 1, 14, none⟩ (.int .u8 (q : Int))) := hS.setP 14 (fun i => if i = 14 then q else MX f (fun _ => 0) 12 i) (by omega) (fun i hi => if_neg hi)
   have S2 : CS w f (fun i => if i = 15 then m else if i = 14 then q else MX f (fun _ => 0) 12 i) ((wr.setCell ⟨w.heap.size + 1 + 1, 14, none⟩ (.int .u8 (q : Int))).setCell ⟨w.heap.size + 1 + 1, 15, none⟩ (.int .u8 (m : Int))) := S1.setP 15 (fun i => if i = 15 then m else if i = 14 then q else MX f (fun _ => 0) 12 i) (by omega) (fun i hi => if_neg hi)
   have c1 := hS.p.cell 14 (by omega)
   have f1 := Blk.frozen hS.p 14
   have c2 := S1.p.cell 15 (by omega)
   have f2 := Blk.frozen S1.p 15
   have fin : LB (counterF f n) = LB (fun i => if i = 15 then m else if i = 14 then q else MX f (fun _ => 0) 12 i) := LB_congr fun i hi => by
    unfold counterF MX
    rw [hq, hm]
    by_cases h1 : i < 12
    · rw [if_pos h1, if_neg (by omega), if_neg (by omega), if_pos h1]
    ·
     rw [if_neg h1]
     by_cases h2 : i = 14
     · rw [if_pos h2, if_neg (by omega), if_pos h2]
     · rw [if_neg h2, if_neg h2, if_neg h1]
   have FIN := Lib.hid fin
   clear fin hq hm
   generalize (fun i => if i = 15 then m else if i = 14 then q else MX f (fun _ => 0) 12 i) = p2 at *
   go_upto_region 8 with fail
   clear c1 f1 c2 f2 S1 hS
   refine wp_region_seq ?_
   refine wpSeq_yield (S := CS w f p2) (yieldsIf_row_wanted rfl 26 _ rfl (w.heap.size + 1 + 1) rfl 26 _ _ (fun _ h => h.p) Tryd.underlying26 rfl (info_16 _)) S2 ?_
   simp only [Act.put, List.setIfInBounds_toArray, List.set_cons_zero, List.set_cons_succ]
   refine wpSeq_store_row rfl 26 _ _ rfl (w.heap.size + 1) (Iv .u8 (NI (LB p2))) rfl rfl 26 _ S2.r (info_16 _) (by rw [Iv_size, Iv_size, NI_length, NI_length, LB_length, LB_length]) (Iv_one _ _) ?_
   refine wpSeq_nil ?_
   have RR := Blk.row S2.r (Iv .u8 (NI (LB p2)))
   have BB := below_setRow S2.bl (g := w.heap.size + 1) (by omega) (Iv .u8 (NI (LB p2)))
   generalize World.setRow _ _ _ = V at *
   go_wp2
   refine bodyPost_ret (results_cell_row rfl _ _ _ 26 _ (0, 0) _ rfl RR Tryd.underlying26 rfl (info_16 _)) ?_ ?_
   · rfl
   · exact ⟨by rw [FIN.out], BB⟩
  ·
   have k1 : (k : Int) < 12 := by omega
   have k2 : (k : Int) < 16 := by omega
   have k0 : (0 : Int) ≤ (k : Int) := by omega
   have cn := hS.n.cell k (by omega)
   have cp := hS.p.cell k (by omega)
   have fp := Blk.frozen hS.p k
   have hN := hS.setP k (MX f (fun _ => 0) (k + 1)) (by omega) (fun i hi => by unfold MX; by_cases hik : i < k <;> simp [hik] <;> omega)
   rw [show MX f (fun _ => 0) (k + 1) k = f k from if_pos (by omega)] at hN
   clear hS
   go_wp2
   exact ⟨⟨k + 1, by omega, rfl, hN⟩, by simp only [intOf]; omega⟩
end Go.Proofs.YtpihgljdbpnehaaDoor
namespace Go.Proofs.YtpihgljdbpnehaaDoor
open Go.RowKit
/-- Y joined with block j of bytes. -/
def joinF (y : Nat → Nat) (l : List Nat) (j i : Nat) : Nat := y i ^^^ l.getD (16 * j + i) 0
def hashF (y h : Nat → Nat) (l : List Nat) : Nat → Nat → Nat
 | 0 => y
 | j + 1 => timesF (joinF (hashF y h l j) l j) h
theorem joinF_lt {y : Nat → Nat} {l : List Nat} (hy : ∀ i, y i < 256) (hl : ∀ x ∈ l, x < 256) (j i : Nat) : joinF y l j i < 256 := by
 unfold joinF
 exact Nat.xor_lt_two_pow (n := 8) (hy i) (Bytes.getD hl _)
theorem hashF_lt {y h : Nat → Nat} {l : List Nat} (hy : ∀ i, y i < 256) (hh : ∀ i, h i < 256) : ∀ j i, hashF y h l j i < 256
 | 0, i => hy i
 | _j + 1, i => timesF_lt hh i
structure HS (w : World) (v : Value) (l : List Nat) (y h : Nat → Nat) (wr : World) : Prop where
 y : B16 wr w.heap.size y
 h : B16 wr (w.heap.size + 1) h
 r : B16 wr (w.heap.size + 1 + 1) (fun _ => 0)
 s : SB wr v l
 bl : Below w.heap.size w wr
section
variable {w wr : World} {v : Value} {l : List Nat} {y h : Nat → Nat}
theorem HS.drew (H : HS w v l y h wr) : HS w v l y h wr.drew := ⟨H.y.of_block rfl, H.h.of_block rfl, H.r.of_block rfl, H.s.below (below_drew (Below.refl _ _)), below_drew H.bl⟩
theorem HS.below (H : HS w v l y h wr) {w1 : World} (b : Below wr.heap.size wr w1) : HS w v l y h w1 := ⟨Blk.below' H.y b, Blk.below' H.h b, Blk.below' H.r b, H.s.below b, H.bl.trans (b.mono H.bl.size)⟩
theorem HS.setY (hs : SB w v l) (H : HS w v l y h wr) (k : Nat) (y' : Nat → Nat) (hk : k < 16) (ho : ∀ i, i ≠ k → y' i = y i) : HS w v l y' h (wr.setCell ⟨w.heap.size, k, none⟩ (.int .u8 ((y' k : Nat) : Int))) :=
 have b := H.bl.setCell (p := ⟨w.heap.size, k, none⟩) (Nat.le_refl _) (.int .u8 ((y' k : Nat) : Int))
 ⟨H.y.set k y' hk ho, H.h.of_block (heap_setCell_other wr _ _ _ (by dsimp only; omega)), H.r.of_block (heap_setCell_other wr _ _ _ (by dsimp only; omega)), hs.below b, b⟩
theorem HS.rowY (hs : SB w v l) (H : HS w v l y h wr) (y' : Nat → Nat) : HS w v l y' h (wr.setRow w.heap.size (Iv .u8 (NI (LB y')))) :=
 have b := below_setRow H.bl (g := w.heap.size) (Nat.le_refl _) (Iv .u8 (NI (LB y')))
 ⟨Blk.row H.y _, Blk.rowFar H.h (by omega) _, Blk.rowFar H.r (by omega) _, hs.below b, b⟩
end
end Go.Proofs.YtpihgljdbpnehaaDoor
namespace Go.Proofs.YtpihgljdbpnehaaDoor
open Go
/-- A nonce as a function. -/
def nF (nonce : List Nat) (t : Nat) : Nat := nonce.getD t 0
/-- The counter block n, encrypted. -/
def ecL (k nonce : List Nat) (n : Nat) : List Nat := encL boxL k (LB (counterF (nF nonce) n))
def strF (k nonce : List Nat) (i : Nat) : Nat := (ecL k nonce (i / 16 + 2)).getD (i % 16) 0
/-- Bytes joined with the stream. -/
def xorS (k nonce b : List Nat) : List Nat := (List.range b.length).map fun i => b.getD i 0 ^^^ strF k nonce i
def hK (k : List Nat) (i : Nat) : Nat := (encL boxL k (LB fun _ => 0)).getD i 0
def hashL (y h : Nat → Nat) (l : List Nat) : Nat → Nat := hashF y h l ((l.length + 15) / 16)
/-- A number of bits as eight bytes. -/
def bitsL (n : Nat) : List Nat := (List.range 8).map fun i => n * 8 / 2 ^ (56 - 8 * i) % 256
def lensL (n m : Nat) : List Nat := bitsL n ++ bitsL m
def tagY (k beside ct : List Nat) : Nat → Nat := hashL (hashL (hashL (fun _ => 0) (hK k) beside) (hK k) ct) (hK k) (lensL beside.length ct.length)
def tagL (k nonce beside ct : List Nat) : List Nat := LB fun i => tagY k beside ct i ^^^ (ecL k nonce 1).getD i 0
def sealL (k nonce beside b : List Nat) : List Nat := xorS k nonce b ++ tagL k nonce beside (xorS k nonce b)
def openL (k nonce beside s : List Nat) : Option (List Nat) :=
 if 16 ≤ s.length ∧ tagL k nonce beside (s.take (s.length - 16)) = s.drop (s.length - 16) then some (xorS k nonce (s.take (s.length - 16))) else none
theorem ecL_length (k nonce : List Nat) (n : Nat) : (ecL k nonce n).length = 16 := blockF_length _ _ _ _
theorem xorS_length (k nonce b : List Nat) : (xorS k nonce b).length = b.length := by simp [xorS]
theorem tagL_length (k nonce beside ct : List Nat) : (tagL k nonce beside ct).length = 16 := LB_length _
theorem sealL_length (k nonce beside b : List Nat) : (sealL k nonce beside b).length = b.length + 16 := by
 unfold sealL
 rw [List.length_append, xorS_length, tagL_length]
theorem xorS_get (k nonce b : List Nat) (i : Nat) (h : i < b.length) : (xorS k nonce b).getD i 0 = b.getD i 0 ^^^ strF k nonce i := by
 simp [xorS, List.getD_eq_getElem?_getD, List.getElem?_map, List.getElem?_range h]
theorem xor_back (a b : Nat) : a ^^^ b ^^^ b = a := by rw [Nat.xor_assoc, Nat.xor_self, Nat.xor_zero]
theorem ext0 {a b : List Nat} (hl : a.length = b.length) (h : ∀ t, t < a.length → a.getD t 0 = b.getD t 0) : a = b := by
 apply List.ext_getElem hl
 intro i h1 h2
 have := h i h1
 rw [List.getD_eq_getElem?_getD, List.getD_eq_getElem?_getD, List.getElem?_eq_getElem h1, List.getElem?_eq_getElem h2] at this
 exact this
theorem xorS_back (k nonce b : List Nat) : xorS k nonce (xorS k nonce b) = b := by
 refine ext0 (by rw [xorS_length, xorS_length]) fun t ht => ?_
 rw [xorS_length, xorS_length] at ht
 rw [xorS_get _ _ _ _ (by rw [xorS_length]; exact ht), xorS_get _ _ _ _ ht, xor_back]
theorem open_seal (k nonce beside b : List Nat) : openL k nonce beside (sealL k nonce beside b) = some b := by
 unfold openL
 have hl := sealL_length k nonce beside b
 have ht : (sealL k nonce beside b).take ((sealL k nonce beside b).length - 16) = xorS k nonce b := by
  rw [hl, Nat.add_sub_cancel]
  unfold sealL
  rw [List.take_append_of_le_length (by rw [xorS_length]; exact Nat.le_refl _), List.take_of_length_le (by rw [xorS_length]; exact Nat.le_refl _)]
 have hd : (sealL k nonce beside b).drop ((sealL k nonce beside b).length - 16) = tagL k nonce beside (xorS k nonce b) := by
  rw [hl, Nat.add_sub_cancel]
  unfold sealL
  have := List.drop_left (l₁ := xorS k nonce b) (l₂ := tagL k nonce beside (xorS k nonce b))
  rw [xorS_length] at this
  exact this
 rw [ht, hd, if_pos ⟨by omega, rfl⟩, xorS_back]
theorem open_short {k nonce beside s : List Nat} (h : s.length < 16) : openL k nonce beside s = none := if_neg (by omega)
/-- Bytes. -/
theorem getD_bytes {l : List Nat} (h : ∀ x ∈ l, x < 256) (i : Nat) : l.getD i 0 < 256 := getD_lt h i
theorem LB_bytes' {f : Nat → Nat} (h : ∀ i, f i < 256) : ∀ x ∈ LB f, x < 256 := fun x hx => by
 obtain ⟨i, _, rfl⟩ := List.mem_map.1 hx
 exact h i
theorem ecL_bytes {k nonce : List Nat} (bk : ∀ x ∈ k, x < 256) (bn : ∀ x ∈ nonce, x < 256) {n : Nat} (hn : n < 65536) : ∀ x ∈ ecL k nonce n, x < 256 :=
 blockF_bytes (keysF_bytes boxL_bytes bk 40) (LB_bytes' fun i => counterF_lt (fun t => getD_lt bn t) hn i) 10
theorem strF_lt {k nonce : List Nat} (bk : ∀ x ∈ k, x < 256) (bn : ∀ x ∈ nonce, x < 256) {i : Nat} (hi : i < 1000000) : strF k nonce i < 256 := getD_lt (ecL_bytes bk bn (by omega)) _
theorem xorS_bytes {k nonce b : List Nat} (bk : ∀ x ∈ k, x < 256) (bn : ∀ x ∈ nonce, x < 256) (bb : ∀ x ∈ b, x < 256) (hb : b.length ≤ 1000000) : ∀ x ∈ xorS k nonce b, x < 256 := fun x hx => by
 obtain ⟨i, hi, rfl⟩ := List.mem_map.1 hx
 have := List.mem_range.1 hi
 exact xor_256 (getD_lt bb i) (strF_lt bk bn (by omega))
theorem hK_lt {k : List Nat} (bk : ∀ x ∈ k, x < 256) (i : Nat) : hK k i < 256 := getD_lt (blockF_bytes (keysF_bytes boxL_bytes bk 40) (LB_bytes' fun _ => by decide) 10) _
theorem bitsL_bytes (n : Nat) : ∀ x ∈ bitsL n, x < 256 := fun x hx => by
 obtain ⟨i, _, rfl⟩ := List.mem_map.1 hx
 exact Nat.mod_lt _ (by decide)
theorem bitsL_length (n : Nat) : (bitsL n).length = 8 := by simp [bitsL]
theorem lensL_length (n m : Nat) : (lensL n m).length = 16 := by unfold lensL; rw [List.length_append, bitsL_length, bitsL_length]
theorem lensL_bytes (n m : Nat) : ∀ x ∈ lensL n m, x < 256 := Bytes.append (bitsL_bytes n) (bitsL_bytes m)
theorem tagY_lt {k beside ct : List Nat} (bk : ∀ x ∈ k, x < 256) (i : Nat) : tagY k beside ct i < 256 :=
 hashF_lt (fun j => hashF_lt (fun j => hashF_lt (fun _ => by decide) (hK_lt bk) _ j) (hK_lt bk) _ j) (hK_lt bk) _ i
theorem tagL_bytes {k nonce beside ct : List Nat} (bk : ∀ x ∈ k, x < 256) (bn : ∀ x ∈ nonce, x < 256) : ∀ x ∈ tagL k nonce beside ct, x < 256 :=
 LB_bytes' fun i => xor_256 (tagY_lt bk i) (getD_lt (ecL_bytes bk bn (by omega)) i)
theorem sealL_bytes {k nonce beside b : List Nat} (bk : ∀ x ∈ k, x < 256) (bn : ∀ x ∈ nonce, x < 256) (bb : ∀ x ∈ b, x < 256) (hb : b.length ≤ 1000000) : ∀ x ∈ sealL k nonce beside b, x < 256 :=
 Bytes.append (xorS_bytes bk bn bb hb) (tagL_bytes bk bn)
theorem hashL_lt {y h : Nat → Nat} {l : List Nat} (hy : ∀ i, y i < 256) (hh : ∀ i, h i < 256) (i : Nat) : hashL y h l i < 256 := hashF_lt hy hh _ i
end Go.Proofs.YtpihgljdbpnehaaDoor
