/- The program's subs: the table of Subs; its contract. The program's joined: its contract. A Cipher in memory; the program's moved: its contract. -/
import Derived.Test.YtpihgljdbpnehaaDoorPa0Pb
import Derived.StillTailTactics
namespace Go.Proofs.YtpihgljdbpnehaaDoor
open Go.RowKit
/-- The bytes of a row, and where one is put. -/
theorem ni_setIf (l : List Nat) (i x : Nat) : (Iv .u8 (NI l)).setIfInBounds i (.int .u8 ((x : Nat) : Int)) = Iv .u8 (NI (l.set i x)) := by
  rw [Iv_set, NI_set]
theorem info_255 (l : List Nat) (h : l.length = 255) : (Tryd.prog.info? 131).map (·.size) = some (Iv .u8 (NI l)).size := by
  rw [Iv_size, NI_length, h]
  kernel_rfl
theorem info_256 (l : List Nat) (h : l.length = 256) : (Tryd.prog.info? 110).map (·.size) = some (Iv .u8 (NI l)).size := by
  rw [Iv_size, NI_length, h]
  kernel_rfl
/-- The powers, as far as they are put. -/
def pwF : Nat → List Nat
  | 0 => List.replicate 255 0
  | k + 1 => (pwF k).set k (powF k)
theorem pwF_length : ∀ k, (pwF k).length = 255
  | 0 => List.length_replicate
  | k + 1 => by show ((pwF k).set k _).length = 255; rw [List.length_set, pwF_length k]
theorem pwF_get : ∀ k, k ≤ 255 → ∀ i, i < k → (pwF k).getD i 0 = powF i
  | 0, _, _, h => absurd h (by omega)
  | k + 1, hk, i, hi => by
    show ((pwF k).set k (powF k)).getD i 0 = _
    have hl := pwF_length k
    rw [List.getD_eq_getElem?_getD, List.getElem?_set]
    by_cases h : k = i
    · subst h
      rw [if_pos rfl, if_pos (by omega)]
      rfl
    · rw [if_neg h, ← List.getD_eq_getElem?_getD]
      exact pwF_get k (by omega) i (by omega)
theorem index255 (l : List Nat) (hl : l.length = 255) (k : Nat) (hk : k < 255) (w : World) : (Instr.index 131 (.agg (Iv .u8 (NI l))) (.int .i64 (k : Int))).run Tryd.prog w = .ok (.int .u8 ((l.getD k 0 : Nat) : Int)) w := by
  obtain ⟨i, hi, hs, hy, hz⟩ := info_u8
  have hx : (Iv .u8 (NI l))[k]? = some (.int .u8 ((l.getD k 0 : Nat) : Int)) := by
    rw [NI_get _ _ (by omega)]
    simp [List.getD_eq_getElem?_getD, show k < l.length by omega]
  have i1 : (k : Int) < 255 := by omega
  have i0 : (0 : Int) ≤ (k : Int) := by omega
  unfold Instr.index
  simp only [asIntOf, Sem.run_bind, Sem.run_pure, Result.andThen_ok, run_underlying Tryd.underlying131]
  go_simp
def z256 : List Nat := List.replicate 256 0
def z255 : List Nat := List.replicate 255 0
theorem zero256 (w : World) : (zeroValue 110).run Tryd.prog w = .ok (.agg (Iv .u8 (NI z256))) w := by kernel_rfl
theorem build99 (w : World) : (Instr.build 110 #[(0, .int .u8 99)]).run Tryd.prog w = .ok (.agg (Iv .u8 (NI (tabF 0)))) w := by kernel_rfl
set_option maxHeartbeats 4000000 in
set_option maxRecDepth 100000 in
theorem subs_any (w : World) : Calls Tryd.prog 63 #[] w fun e w' => e = .returned (.agg (Iv .u8 (NI boxL))) ∧ Below w.heap.size w w' := by
  go_enter Tryd.func63, Tryd.ntmps63
  go_upto_region 4 with fail
  rw [show Tryd.zeroCells110 = Iv .u8 (NI z256) by kernel_rfl, show Tryd.zeroCells131 = Iv .u8 (NI z255) by kernel_rfl]
  generalize hW : World.alloc (World.alloc w _) _ = W
  have B0 : Below w.heap.size w W := hW ▸ ((Below.refl w.heap.size w).alloc (Nat.le_refl _) _).alloc (by simp) _
  have R0 : Blk W w.heap.size 110 (Iv .u8 (NI z256)) := hW ▸ (Blk.new w _ _).alloc _
  have P0 : Blk W (w.heap.size + 1) 131 (Iv .u8 (NI (pwF 0))) := hW ▸ Blk.new' (by simp) _ _
  clear hW
  go_loopw [2, 7] (fun p i wr => ∃ k : Nat, k ≤ 255 ∧ i = .int .i64 (k : Int) ∧ p = .int .u8 ((powF k : Nat) : Int) ∧ Blk wr w.heap.size 110 (Iv .u8 (NI z256)) ∧ Blk wr (w.heap.size + 1) 131 (Iv .u8 (NI (pwF k))) ∧ Below w.heap.size w wr) (fun _ i _ => (255 - intOf i).toNat)
  case atStart => exact ⟨0, by omega, rfl, rfl, R0, P0, B0⟩
  case round =>
    clear R0 P0 B0
    obtain ⟨k, hk, rfl, rfl, R, P, hB⟩ := hrel
    by_cases h255 : k = 255
    · subst h255
      go_upto_region 9 with fail
      rename_i aK
      have PG := fun i hi => pwF_get 255 (Nat.le_refl _) i hi
      have PL := pwF_length 255
      generalize pwF 255 = PW at *
      generalize powF 255 = X0 at *
      refine wp_region_seq ?_
      refine wpSeq_yield (S := fun w' => w' = wr) (v := .agg (Iv .u8 (NI (tabF 0)))) (Or.inl ⟨rfl, fun w' hw' => ?_⟩) rfl ?_
      · simp only [execOp, List.map_toArray, List.map_cons, List.map_nil, Act.eval, build99, Sem.run_bind, Result.andThen_ok, Sem.run_pure]
      refine wpSeq_allocQ 110 (Iv .u8 (NI z256)) rfl (fun W => by go_simp; first | (rw [zero256]; rfl) | rw [show Tryd.zeroCells110 = Iv .u8 (NI z256) by kernel_rfl]) ?_
      intro gt W T1 b1 m1
      refine wpSeq_store_row rfl 110 _ _ rfl gt (Iv .u8 (NI (tabF 0))) rfl rfl 110 _ T1 (info_256 _ (tabF_length 0)) (by rw [Iv_size, Iv_size, NI_length, NI_length]; rfl) (Iv_one _ _) ?_
      refine wpSeq_nil ?_
      have T2 := T1.row (Iv .u8 (NI (tabF 0)))
      have lt1 := T1.lt
      have P2 := (Blk.below' P b1).rowFar (k := gt) (by have := P.lt; omega) (Iv .u8 (NI (tabF 0)))
      have R2 := (Blk.below' R b1).rowFar (k := gt) (by have := R.lt; omega) (Iv .u8 (NI (tabF 0)))
      have B2 := below_setRow (hB.trans (b1.mono hB.size)) (g := gt) (Nat.le_trans hB.size m1) (Iv .u8 (NI (tabF 0)))
      have gne : w.heap.size + 1 ≠ gt := by have := P.lt; omega
      have g0 : w.heap.size ≠ gt := by have := P.lt; omega
      have gge : w.heap.size ≤ gt := Nat.le_trans hB.size m1
      clear P R hB b1 T1 m1
      refine aK _ _ ?_
      clear aK
      generalize World.setRow W gt _ = V at *
      go_upto_region 11 with (refine wpList_load_row rfl 131 _ rfl (w.heap.size + 1) rfl 131 _ (0, 0) _ P2 Tryd.underlying131 rfl (info_255 _ PL) ?_)
      go_loopw [18] (fun i wr => ∃ k : Nat, k ≤ 255 ∧ i = .int .i64 (k : Int) ∧ Blk wr w.heap.size 110 (Iv .u8 (NI z256)) ∧ Blk wr (w.heap.size + 1) 131 (Iv .u8 (NI PW)) ∧ Blk wr gt 110 (Iv .u8 (NI (tabF k))) ∧ Below w.heap.size w wr) (fun i _ => (255 - intOf i).toNat)
      case atStart => exact ⟨0, by omega, rfl, R2, P2, T2, B2⟩
      case round =>
        clear R2 P2 T2 B2
        obtain ⟨k, hk, rfl, R, P, T, hB⟩ := hrel
        by_cases h255 : k = 255
        · subst h255
          rw [tab_box] at T
          go_upto_region 15 with fail
          go_wp2_with (first | (refine wpList_load_row rfl 110 _ rfl gt rfl 110 _ (0, 0) _ T Tryd.underlying110 rfl (info_256 _ boxL_length) ?_) | (refine wpList_store_row rfl 110 _ _ rfl w.heap.size (Iv .u8 (NI boxL)) rfl rfl 110 _ R (info_256 _ boxL_length) (by rw [Iv_size, Iv_size, NI_length, NI_length, boxL_length]; rfl) (Iv_one _ _) ?_))
          have RR := Blk.row R (Iv .u8 (NI boxL))
          have BBd := below_setRow hB (g := w.heap.size) (Nat.le_refl _) (Iv .u8 (NI boxL))
          exact bodyPost_ret (results_cell_row rfl _ _ _ 110 _ (0, 0) _ rfl RR Tryd.underlying110 rfl (info_256 _ boxL_length)) rfl ⟨rfl, BBd⟩
        · have i1 : (k : Int) < 255 := by omega
          have i0 : (0 : Int) ≤ (k : Int) := by omega
          have hx := Lib.hid (fun W => index255 PW PL k (by omega) W)
          rw [PG k (by omega)] at hx
          obtain ⟨m, hm⟩ : ∃ m, m = (255 - k) % 255 := ⟨_, rfl⟩
          have m1 : m < 255 := by omega
          have im : ((255 : Int) - (k : Int)).tmod 255 = (m : Int) := by rw [Int.tmod_eq_emod_of_nonneg (by omega)]; omega
          have iw : wrap64 ((255 : Int) - (k : Int)) = (255 : Int) - (k : Int) := by unfold wrap64; omega
          have m2 : (m : Int) < 255 := by omega
          have m0 : (0 : Int) ≤ (m : Int) := by omega
          have c1 : wr.cell? ⟨w.heap.size + 1, m, none⟩ = some (.int .u8 ((powF m : Nat) : Int)) := by
            rw [Blk.cell P, NI_get _ _ (by omega), ← PG m (by omega)]
            simp [List.getD_eq_getElem?_getD, show m < PW.length by omega]
          have C := Lib.hid (turned_any (powF m) (powF_lt m))
          have es := Lib.hid (show tabF (k + 1) = (tabF k).set (powF k) (turnedN (powF m)) by rw [hm]; rfl)
          have lk := powF_lt k
          have hl := tabF_length k
          have lp : (0 : Int) ≤ ((powF k : Nat) : Int) := by omega
          have lq : ((powF k : Nat) : Int) < 256 := by omega
          generalize powF k = X at *
          generalize powF m = Y at *
          generalize turnedN Y = Z at *
          generalize tabF k = TT at *
          clear hm PG
          go_wp2_with fail
          rw [hx.out]
          simp only [Result.andThen_ok]
          go_wp2_with fail
          refine (C.out _).mono ?_
          rintro _ w1 ⟨rfl, b1⟩
          replace R := Blk.below' R b1
          replace P := Blk.below' P b1
          replace T := Blk.below' T b1
          replace hB := hB.trans (b1.mono hB.size)
          have c2 : w1.cell? ⟨gt, X, none⟩ = some (.int .u8 ((TT.getD X 0 : Nat) : Int)) := by
            rw [Blk.cell T, NI_get _ _ (by omega)]
            simp [List.getD_eq_getElem?_getD, show X < TT.length by omega]
          have f2 := Blk.frozen T X
          have T2 := Blk.set T X (.int .u8 ((Z : Nat) : Int))
          rw [ni_setIf, ← es.out] at T2
          have P2 : Blk (w1.setCell ⟨gt, X, none⟩ (.int .u8 ((Z : Nat) : Int))) (w.heap.size + 1) 131 _ := Blk.far (p := ⟨gt, X, none⟩) P gne _
          have R2 : Blk (w1.setCell ⟨gt, X, none⟩ (.int .u8 ((Z : Nat) : Int))) w.heap.size 110 _ := Blk.far (p := ⟨gt, X, none⟩) R g0 _
          have B2 := hB.setCell (p := ⟨gt, X, none⟩) gge (.int .u8 ((Z : Nat) : Int))
          clear hx C b1 P R T hB
          go_wp2
          exact ⟨⟨k + 1, by omega, rfl, R2, P2, T2, B2⟩, by simp only [intOf]; omega⟩
    · have i1 : (k : Int) < 255 := by omega
      have i0 : (0 : Int) ≤ (k : Int) := by omega
      have C := Lib.hid (triple_any (powF k) (powF_lt k))
      have es := Lib.hid (show powF (k + 1) = tripN (powF k) from rfl)
      have ep := Lib.hid (show pwF (k + 1) = (pwF k).set k (powF k) from rfl)
      have hl := pwF_length k
      have P1 := Blk.set P k (.int .u8 ((powF k : Nat) : Int))
      rw [ni_setIf, ← ep.out] at P1
      have R1 : Blk (wr.setCell ⟨w.heap.size + 1, k, none⟩ (.int .u8 ((powF k : Nat) : Int))) w.heap.size 110 _ := Blk.far (p := ⟨w.heap.size + 1, k, none⟩) R (by simp) _
      have c0 : wr.cell? ⟨w.heap.size + 1, k, none⟩ = some (.int .u8 (((pwF k).getD k 0 : Nat) : Int)) := by
        rw [Blk.cell P, NI_get _ _ (by omega)]
        simp [List.getD_eq_getElem?_getD, show k < (pwF k).length by omega]
      have f0 := Blk.frozen P k
      have hB1 := hB.setCell (p := ⟨w.heap.size + 1, k, none⟩) (Nat.le_succ _) (.int .u8 ((powF k : Nat) : Int))
      clear P R hB
      generalize powF k = X at *
      go_wp2_with fail
      refine (C.out _).mono ?_
      rintro _ w1 ⟨rfl, b1⟩
      generalize World.setCell wr _ _ = V at *
      have P2 := Blk.below' P1 b1
      have R2 := Blk.below' R1 b1
      have hB2 := hB1.trans (b1.mono hB1.size)
      clear P1 R1 hB1 b1 c0 f0
      go_wp2
      exact ⟨⟨k + 1, by omega, rfl, by rw [es.out], R2, P2, hB2⟩, by simp only [intOf]; omega⟩
end Go.Proofs.YtpihgljdbpnehaaDoor
namespace Go.Proofs.YtpihgljdbpnehaaDoor
open Go.RowKit
theorem NI_of (l : List Nat) (h : l.length = 16) : NI l = NI (LB fun i => l.getD i 0) := (NI_LB l h).symm
theorem MX_step (f g : Nat → Nat) (k : Nat) : ∀ i, i ≠ k → MX f g (k + 1) i = MX f g k i := fun i hi => by
  unfold MX
  by_cases hik : i < k <;> simp [hik] <;> omega
theorem MX_new (f g : Nat → Nat) (k : Nat) : MX f g (k + 1) k = f k := if_pos (by omega)
theorem MX_old (f g : Nat → Nat) (k : Nat) : MX f g k k = g k := if_neg (by omega)
theorem BB.of_block {w w1 : World} {g : Nat} {f : Nat → Nat} (h : BB w g f) (hb : w1.heap[g]? = w.heap[g]?) : BB w1 g f := Eq.trans hb h
theorem BB.far {w : World} {g k i : Nat} {f : Nat → Nat} (h : BB w g f) (hk : g ≠ k) (v : Value) : BB (w.setCell ⟨k, i, none⟩ v) g f := Blk.far (p := ⟨k, i, none⟩) h hk v
theorem BB.below {w w1 : World} {g : Nat} {f : Nat → Nat} (h : BB w g f) (b : Below w.heap.size w w1) : BB w1 g f := Blk.below' h b
set_option maxHeartbeats 4000000 in
set_option maxRecDepth 100000 in
theorem joined_f (f g : Nat → Nat) (fa : ∀ i, f i < 256) (fb : ∀ i, g i < 256) (w : World) :
    Calls Tryd.prog 81 #[.agg (Iv .u8 (NI (LB f))), .agg (Iv .u8 (NI (LB g)))] w fun e w' => e = .returned (.agg (Iv .u8 (NI (LB fun i => f i ^^^ g i)))) ∧ Below w.heap.size w w' := by
  go_enter Tryd.func81, Tryd.ntmps81
  go_upto_region 2 with fail
  generalize hW : World.alloc (World.alloc (World.alloc w _) _) _ = W
  have B0 : Below w.heap.size w W := hW ▸ (((Below.refl w.heap.size w).alloc (Nat.le_refl _) _).alloc (by simp) _).alloc (by simp; omega) _
  have K0 : BB W w.heap.size (MX (fun i => f i ^^^ g i) f 0) := hW ▸ ((Blk.new w 27 (Iv .u8 (NI (LB f)))).alloc _).alloc _
  have K1 : BB W (w.heap.size + 1) g := hW ▸ (Blk.new' (by simp) _ _).alloc _
  have K2 : BB W (w.heap.size + 1 + 1) (fun _ => 0) := hW ▸ Blk.new' (by simp) _ (Iv .u8 (NI (LB fun _ => 0)))
  clear hW
  go_loopw [6] (fun i wr => ∃ k : Nat, k ≤ 16 ∧ i = .int .i64 (k : Int) ∧ BB wr w.heap.size (MX (fun i => f i ^^^ g i) f k) ∧ BB wr (w.heap.size + 1) g ∧ BB wr (w.heap.size + 1 + 1) (fun _ => 0) ∧ Below w.heap.size w wr) (fun i _ => (16 - intOf i).toNat)
  case atStart => exact ⟨0, by omega, rfl, K0, K1, K2, B0⟩
  case round =>
    clear K0 K1 K2 B0
    obtain ⟨k, hk, rfl, K0, K1, K2, hB⟩ := hrel
    by_cases h16 : k = 16
    · subst h16
      replace K0 := K0.congr (f' := fun i => f i ^^^ g i) fun i hi => if_pos hi
      obtain ⟨x, hx⟩ : ∃ x, x = fun i => f i ^^^ g i := ⟨_, rfl⟩
      rw [← hx] at K0
      have HX := Lib.hid hx
      clear hx
      go_wp2_with (first | (refine wpList_load_row rfl 27 _ rfl w.heap.size rfl 27 _ (0, 0) _ K0 Tryd.underlying27 rfl (info_bl _) ?_) | (refine wpList_store_row rfl 27 _ _ rfl (w.heap.size + 1 + 1) (Iv .u8 (NI (LB x))) rfl rfl 27 _ K2 (info_bl _) (by rw [Iv_size, Iv_size, NI_length, NI_length, LB_length, LB_length]) (Iv_one _ _) ?_))
      exact bodyPost_ret (results_cell_row rfl _ _ _ 27 _ (0, 0) _ rfl (Blk.row K2 (Iv .u8 (NI (LB x)))) Tryd.underlying27 rfl (info_bl _)) rfl ⟨by rw [HX.out], below_setRow hB (by omega) _⟩
    · have i1 : (k : Int) < 16 := by omega
      have i0 : (0 : Int) ≤ (k : Int) := by omega
      go_upto_region 4 with fail
      rename_i aK
      refine wp_region_still_tail 8 (by kernel_rfl) (by kernel_rfl) ?_
      simp only [List.take_succ_cons, List.take_zero, List.drop_succ_cons, List.drop_zero]
      change wpStill _ _ (World.drew wr) (fun a' => wpList _ _ _ _ a' (World.drew wr)) _ _
      replace K0 : BB wr.drew _ _ := K0.of_block rfl
      replace K1 : BB wr.drew _ _ := K1.of_block rfl
      replace K2 : BB wr.drew _ _ := K2.of_block rfl
      replace hB := below_drew hB
      generalize World.drew wr = V at *
      have c0 := K0.cell k (by omega)
      have c1 := K1.cell k (by omega)
      have f0 := Blk.frozen K0 k
      rw [MX_old] at c0
      have ex := u8_xor _ _ (fa k) (fb k)
      have K0' := K0.set k (MX (fun i => f i ^^^ g i) f (k + 1)) (MX_step _ _ k)
      rw [MX_new] at K0'
      generalize f k ^^^ g k = X at *
      have K1' := K1.far (i := k) (show w.heap.size + 1 ≠ w.heap.size by omega) (.int .u8 (X : Int))
      have K2' := K2.far (i := k) (show w.heap.size + 1 + 1 ≠ w.heap.size by omega) (.int .u8 (X : Int))
      have hB' := hB.setCell (p := ⟨w.heap.size, k, none⟩) (Nat.le_refl _) (.int .u8 (X : Int))
      clear K0 K1 K2 hB
      generalize f k = F at *
      generalize g k = G at *
      repeat still_step
      refine wpStill_nil ?_
      go_wp2
      exact ⟨⟨k + 1, by omega, rfl, K0', K1', K2', hB'⟩, by simp only [intOf]; omega⟩
theorem joined_any (a b : List Nat) (la : a.length = 16) (lb : b.length = 16) (ba : ∀ x ∈ a, x < 256) (bb : ∀ x ∈ b, x < 256) (w : World) :
    Calls Tryd.prog 81 #[.agg (Iv .u8 (NI a)), .agg (Iv .u8 (NI b))] w fun e w' => e = .returned (.agg (Iv .u8 (NI (xorB a b)))) ∧ Below w.heap.size w w' := by
  rw [NI_of a la, NI_of b lb]
  exact joined_f _ _ (fun i => getD_lt ba i) (fun i => getD_lt bb i) w
end Go.Proofs.YtpihgljdbpnehaaDoor
namespace Go.Proofs.YtpihgljdbpnehaaDoor
open Go.RowKit
/-- A Cipher in block g: the rounds' keys, then the Subs. -/
def CI (w : World) (g : Nat) (ks S : List Nat) : Prop := Blk w g 114 (Iv .u8 (NI (ks ++ S)))
theorem CI.of_block {w w1 : World} {g : Nat} {ks S : List Nat} (h : CI w g ks S) (hb : w1.heap[g]? = w.heap[g]?) : CI w1 g ks S := Eq.trans hb h
theorem CI.lt {w : World} {g : Nat} {ks S : List Nat} (h : CI w g ks S) : g < w.heap.size := Blk.lt h
theorem CI.far {w : World} {g k i : Nat} {ks S : List Nat} (h : CI w g ks S) (hk : g ≠ k) (v : Value) : CI (w.setCell ⟨k, i, none⟩ v) g ks S := Blk.far (p := ⟨k, i, none⟩) h hk v
theorem CI.below {w w1 : World} {g : Nat} {ks S : List Nat} (h : CI w g ks S) (b : Below w.heap.size w w1) : CI w1 g ks S := Blk.below' h b
theorem CI.sub {w : World} {g : Nat} {ks S : List Nat} (h : CI w g ks S) (lk : ks.length = 176) (x : Nat) (hx : x < S.length) : w.cell? ⟨g, 176 + x, none⟩ = some (.int .u8 ((S.getD x 0 : Nat) : Int)) := by
  rw [Blk.cell h, NI_get _ _ (by rw [List.length_append]; omega)]
  congr 3
  rw [List.getElem_append_right (by omega)]
  simp [lk, hx]
set_option maxHeartbeats 4000000 in
set_option maxRecDepth 100000 in
theorem moved_f (gc : Nat) (ks S : List Nat) (lk : ks.length = 176) (lS : S.length = 256) (f : Nat → Nat) (fa : ∀ i, f i < 256) (w : World) (hC : CI w gc ks S) :
    Calls Tryd.prog 83 #[.pointer (some ⟨gc, 0, none⟩), .agg (Iv .u8 (NI (LB f)))] w fun e w' => e = .returned (.agg (Iv .u8 (NI (LB (shiftB S (LB f)))))) ∧ Below w.heap.size w w' := by
  go_enter Tryd.func83, Tryd.ntmps83
  go_upto_region 3 with fail
  generalize hW : World.alloc (World.alloc (World.alloc w _) _) _ = W
  have B0 : Below w.heap.size w W := hW ▸ (((Below.refl w.heap.size w).alloc (Nat.le_refl _) _).alloc (by simp) _).alloc (by simp; omega) _
  have K0 : BB W w.heap.size f := hW ▸ ((Blk.new w 27 (Iv .u8 (NI (LB f)))).alloc _).alloc _
  have K1 : BB W (w.heap.size + 1) (fun _ => 0) := hW ▸ (Blk.new' (by simp) _ (Iv .u8 (NI (LB fun _ => 0)))).alloc _
  have K2 : BB W (w.heap.size + 1 + 1) (MX (shiftB S (LB f)) (fun _ => 0) 0) := hW ▸ Blk.new' (by simp) _ (Iv .u8 (NI (LB fun _ => 0)))
  have gcl := hC.lt
  replace hC := hC.below B0
  clear hW
  go_loopw [7] (fun i wr => ∃ k : Nat, k ≤ 16 ∧ i = .int .i64 (k : Int) ∧ CI wr gc ks S ∧ BB wr w.heap.size f ∧ BB wr (w.heap.size + 1) (fun _ => 0) ∧ BB wr (w.heap.size + 1 + 1) (MX (shiftB S (LB f)) (fun _ => 0) k) ∧ Below w.heap.size w wr) (fun i _ => (16 - intOf i).toNat)
  case atStart => exact ⟨0, by omega, rfl, hC, K0, K1, K2, B0⟩
  case round =>
    clear K0 K1 K2 B0 hC
    obtain ⟨k, hk, rfl, hC, K0, K1, K2, hB⟩ := hrel
    by_cases h16 : k = 16
    · subst h16
      replace K2 := K2.congr (f' := shiftB S (LB f)) fun i hi => if_pos hi
      go_wp2_with (first | (refine wpList_load_row rfl 27 _ rfl (w.heap.size + 1 + 1) rfl 27 _ (0, 0) _ K2 Tryd.underlying27 rfl (info_bl _) ?_) | (refine wpList_store_row rfl 27 _ _ rfl (w.heap.size + 1) (Iv .u8 (NI (LB (shiftB S (LB f))))) rfl rfl 27 _ K1 (info_bl _) (by rw [Iv_size, Iv_size, NI_length, NI_length, LB_length, LB_length]) (Iv_one _ _) ?_))
      exact bodyPost_ret (results_cell_row rfl _ _ _ 27 _ (0, 0) _ rfl (Blk.row K1 (Iv .u8 (NI (LB (shiftB S (LB f)))))) Tryd.underlying27 rfl (info_bl _)) rfl ⟨rfl, below_setRow hB (by omega) _⟩
    · have i1 : (k : Int) < 16 := by omega
      have i0 : (0 : Int) ≤ (k : Int) := by omega
      obtain ⟨j, hj⟩ : ∃ j, j = (k + 4 * (k % 4)) % 16 := ⟨_, rfl⟩
      have j0 : j < 16 := by omega
      have t1 : (k : Int).tmod 4 = (k : Int) % 4 := rfl
      have w1' : IntKind.i64.wrap (4 * ((k : Int) % 4)) = 4 * ((k : Int) % 4) := by rw [IntKind.wrap_i64]; omega
      have w2' : IntKind.i64.wrap ((k : Int) + 4 * ((k : Int) % 4)) = (k : Int) + 4 * ((k : Int) % 4) := by rw [IntKind.wrap_i64]; omega
      have t2 : ((k : Int) + 4 * ((k : Int) % 4)).tmod 16 = (j : Int) := by rw [Int.tmod_eq_emod_of_nonneg (by omega)]; omega
      have j1 : (j : Int) < 16 := by omega
      have j2 : (0 : Int) ≤ (j : Int) := by omega
      go_upto_region 5 with fail
      rename_i aK
      refine wp_region_still_tail 15 (by kernel_rfl) (by kernel_rfl) ?_
      simp only [List.take_succ_cons, List.take_zero, List.drop_succ_cons, List.drop_zero]
      change wpStill _ _ (World.drew wr) (fun a' => wpList _ _ _ _ a' (World.drew wr)) _ _
      replace hC : CI wr.drew _ _ _ := hC.of_block rfl
      replace K0 : BB wr.drew _ _ := K0.of_block rfl
      replace K1 : BB wr.drew _ _ := K1.of_block rfl
      replace K2 : BB wr.drew _ _ := K2.of_block rfl
      replace hB := below_drew hB
      generalize World.drew wr = V at *
      have c0 := K0.cell j j0
      have lF := fa j
      have c1 := hC.sub lk (f j) (by omega)
      have c2 := K2.cell k (by omega)
      have f2 := Blk.frozen K2 k
      have hv : shiftB S (LB f) k = S.getD (f j) 0 := by
        unfold shiftB
        rw [← hj, LB_get f j j0]
      have K2' := K2.set k (MX (shiftB S (LB f)) (fun _ => 0) (k + 1)) (MX_step _ _ k)
      rw [MX_new, hv] at K2'
      generalize f j = F at *
      generalize S.getD F 0 = X at *
      have F0 : (0 : Int) ≤ (F : Int) := by omega
      have F1 : (F : Int) < 256 := by omega
      have K0' := K0.far (i := k) (show w.heap.size ≠ w.heap.size + 1 + 1 by omega) (.int .u8 (X : Int))
      have K1' := K1.far (i := k) (show w.heap.size + 1 ≠ w.heap.size + 1 + 1 by omega) (.int .u8 (X : Int))
      have hC' := hC.far (i := k) (show gc ≠ w.heap.size + 1 + 1 by omega) (.int .u8 (X : Int))
      have hB' := hB.setCell (p := ⟨w.heap.size + 1 + 1, k, none⟩) (show w.heap.size ≤ w.heap.size + 1 + 1 by omega) (.int .u8 (X : Int))
      clear K0 K1 K2 hB hC hv hj
      repeat still_step
      refine wpStill_nil ?_
      go_wp2
      exact ⟨⟨k + 1, by omega, rfl, hC', K0', K1', K2', hB'⟩, by simp only [intOf]; omega⟩
theorem moved_any (gc : Nat) (ks S b : List Nat) (lk : ks.length = 176) (lS : S.length = 256) (lb : b.length = 16) (bb : ∀ x ∈ b, x < 256) (w : World) (hC : CI w gc ks S) :
    Calls Tryd.prog 83 #[.pointer (some ⟨gc, 0, none⟩), .agg (Iv .u8 (NI b))] w fun e w' => e = .returned (.agg (Iv .u8 (NI (movedL S b)))) ∧ Below w.heap.size w w' := by
  have h := moved_f gc ks S lk lS (fun i => b.getD i 0) (fun i => getD_lt bb i) w hC
  rw [LB_of b lb] at h
  exact h
end Go.Proofs.YtpihgljdbpnehaaDoor
