/- The program's subs: the table of Subs; its contract. -/
import Derived.Test.YtnkjelamadpllaaPb
namespace Go.Proofs.Ytnkjelamadpllaa
open Go.RowKit

/-- The bytes of a row, and where one is put. -/
theorem ni_setIf (l : List Nat) (i x : Nat) : (Iv .u8 (NI l)).setIfInBounds i (.int .u8 ((x : Nat) : Int)) = Iv .u8 (NI (l.set i x)) := by
  rw [Iv_set, NI_set]
theorem info_255 (l : List Nat) (h : l.length = 255) : (Try.prog.info? 47).map (·.size) = some (Iv .u8 (NI l)).size := by
  rw [Iv_size, NI_length, h]
  kernel_rfl
theorem info_256 (l : List Nat) (h : l.length = 256) : (Try.prog.info? 40).map (·.size) = some (Iv .u8 (NI l)).size := by
  rw [Iv_size, NI_length, h]
  kernel_rfl
/-- The powers, as far as they are put. -/
def pwF : Nat → List Nat
  | 0 => List.replicate 255 0
  | k + 1 => (pwF k).set k (powF k)
theorem pwF_length : ∀ k, (pwF k).length = 255
  | 0 => List.length_replicate
  | k + 1 => by show ((pwF k).set k _).length = 255; rw [List.length_set, pwF_length k]
theorem pwF_get : ∀ k, k ≤ 255 → ∀ i, i < k → (pwF k).getD i 0 = powF i
  | 0, _, _, h => absurd h (by omega)
  | k + 1, hk, i, hi => by
    show ((pwF k).set k (powF k)).getD i 0 = _
    have hl := pwF_length k
    rw [List.getD_eq_getElem?_getD, List.getElem?_set]
    by_cases h : k = i
    · subst h
      rw [if_pos rfl, if_pos (by omega)]
      rfl
    · rw [if_neg h, ← List.getD_eq_getElem?_getD]
      exact pwF_get k (by omega) i (by omega)
theorem index255 (l : List Nat) (hl : l.length = 255) (k : Nat) (hk : k < 255) (w : World) : (Instr.index 47 (.agg (Iv .u8 (NI l))) (.int .i64 (k : Int))).run Try.prog w = .ok (.int .u8 ((l.getD k 0 : Nat) : Int)) w := by
  obtain ⟨i, hi, hs, hy, hz⟩ := info_u8
  have hx : (Iv .u8 (NI l))[k]? = some (.int .u8 ((l.getD k 0 : Nat) : Int)) := by
    rw [NI_get _ _ (by omega)]
    simp [List.getD_eq_getElem?_getD, show k < l.length by omega]
  have i1 : (k : Int) < 255 := by omega
  have i0 : (0 : Int) ≤ (k : Int) := by omega
  unfold Instr.index
  simp only [asIntOf, Sem.run_bind, Sem.run_pure, Result.andThen_ok, run_underlying Try.underlying47]
  go_simp
def z256 : List Nat := List.replicate 256 0
def z255 : List Nat := List.replicate 255 0
theorem zero256 (w : World) : (zeroValue 40).run Try.prog w = .ok (.agg (Iv .u8 (NI z256))) w := by kernel_rfl
theorem zero255 (w : World) : (zeroValue 47).run Try.prog w = .ok (.agg (Iv .u8 (NI z255))) w := by kernel_rfl
theorem build99 (w : World) : (Instr.build 40 #[(0, .int .u8 99)]).run Try.prog w = .ok (.agg (Iv .u8 (NI (tabF 0)))) w := by kernel_rfl
set_option maxHeartbeats 4000000 in
set_option maxRecDepth 100000 in
theorem subs_any (w : World) : Calls Try.prog 16 #[] w fun e w' => e = .returned (.agg (Iv .u8 (NI boxL))) ∧ Below w.heap.size w w' := by
  go_enter Try.func16, Try.ntmps16
  go_upto_region 4 with fail
  rw [zero256]
  simp only [Result.andThen_ok]
  go_upto_region 4 with fail
  rw [zero255]
  simp only [Result.andThen_ok]
  go_upto_region 4 with fail
  generalize hW : World.alloc (World.alloc w _) _ = W
  have B0 : Below w.heap.size w W := hW ▸ ((Below.refl w.heap.size w).alloc (Nat.le_refl _) _).alloc (by simp) _
  have R0 : Blk W w.heap.size 40 (Iv .u8 (NI z256)) := hW ▸ (Blk.new w _ _).alloc _
  have P0 : Blk W (w.heap.size + 1) 47 (Iv .u8 (NI (pwF 0))) := hW ▸ Blk.new' (by simp) _ _
  clear hW
  go_loopw [2, 7] (fun p i wr => ∃ k : Nat, k ≤ 255 ∧ i = .int .i64 (k : Int) ∧ p = .int .u8 ((powF k : Nat) : Int) ∧ Blk wr w.heap.size 40 (Iv .u8 (NI z256)) ∧ Blk wr (w.heap.size + 1) 47 (Iv .u8 (NI (pwF k))) ∧ Below w.heap.size w wr) (fun _ i _ => (255 - intOf i).toNat)
  case atStart => exact ⟨0, by omega, rfl, rfl, R0, P0, B0⟩
  case round =>
    clear R0 P0 B0
    obtain ⟨k, hk, rfl, rfl, R, P, hB⟩ := hrel
    by_cases h255 : k = 255
    · subst h255
      go_upto_region 9 with fail
      rename_i aK
      have PG := fun i hi => pwF_get 255 (Nat.le_refl _) i hi
      have PL := pwF_length 255
      generalize pwF 255 = PW at *
      generalize powF 255 = X0 at *
      refine wp_region_seq ?_
      refine wpSeq_yield (S := fun w' => w' = wr) (v := .agg (Iv .u8 (NI (tabF 0)))) (Or.inl ⟨rfl, fun w' hw' => ?_⟩) rfl ?_
      · simp only [execOp, List.map_toArray, List.map_cons, List.map_nil, Act.eval, build99, Sem.run_bind, Result.andThen_ok, Sem.run_pure]
      refine wpSeq_allocQ 40 (Iv .u8 (NI z256)) rfl (fun W => by go_simp; rw [zero256]; rfl) ?_
      intro gt W T1 b1 m1
      refine wpSeq_store_row rfl 40 _ _ rfl gt (Iv .u8 (NI (tabF 0))) rfl rfl 40 _ T1 (info_256 _ (tabF_length 0)) (by rw [Iv_size, Iv_size, NI_length, NI_length]; rfl) (Iv_one _ _) ?_
      refine wpSeq_nil ?_
      have T2 := T1.row (Iv .u8 (NI (tabF 0)))
      have lt1 := T1.lt
      have P2 := (Blk.below' P b1).rowFar (k := gt) (by have := P.lt; omega) (Iv .u8 (NI (tabF 0)))
      have R2 := (Blk.below' R b1).rowFar (k := gt) (by have := R.lt; omega) (Iv .u8 (NI (tabF 0)))
      have B2 := below_setRow (hB.trans (b1.mono hB.size)) (g := gt) (Nat.le_trans hB.size m1) (Iv .u8 (NI (tabF 0)))
      have gne : w.heap.size + 1 ≠ gt := by have := P.lt; omega
      have g0 : w.heap.size ≠ gt := by have := P.lt; omega
      have gge : w.heap.size ≤ gt := Nat.le_trans hB.size m1
      clear P R hB b1 T1 m1
      refine aK _ _ ?_
      clear aK
      generalize World.setRow W gt _ = V at *
      go_upto_region 11 with (refine wpList_load_row rfl 47 _ rfl (w.heap.size + 1) rfl 47 _ (0, 0) _ P2 Try.underlying47 rfl (info_255 _ PL) ?_)
      go_loopw [18] (fun i wr => ∃ k : Nat, k ≤ 255 ∧ i = .int .i64 (k : Int) ∧ Blk wr w.heap.size 40 (Iv .u8 (NI z256)) ∧ Blk wr (w.heap.size + 1) 47 (Iv .u8 (NI PW)) ∧ Blk wr gt 40 (Iv .u8 (NI (tabF k))) ∧ Below w.heap.size w wr) (fun i _ => (255 - intOf i).toNat)
      case atStart => exact ⟨0, by omega, rfl, R2, P2, T2, B2⟩
      case round =>
        clear R2 P2 T2 B2
        obtain ⟨k, hk, rfl, R, P, T, hB⟩ := hrel
        by_cases h255 : k = 255
        · subst h255
          rw [tab_box] at T
          go_upto_region 15 with fail
          go_wp2_with (first | (refine wpList_load_row rfl 40 _ rfl gt rfl 40 _ (0, 0) _ T Try.underlying40 rfl (info_256 _ boxL_length) ?_) | (refine wpList_store_row rfl 40 _ _ rfl w.heap.size (Iv .u8 (NI boxL)) rfl rfl 40 _ R (info_256 _ boxL_length) (by rw [Iv_size, Iv_size, NI_length, NI_length, boxL_length]; rfl) (Iv_one _ _) ?_))
          have RR := Blk.row R (Iv .u8 (NI boxL))
          have BBd := below_setRow hB (g := w.heap.size) (Nat.le_refl _) (Iv .u8 (NI boxL))
          exact bodyPost_ret (results_cell_row rfl _ _ _ 40 _ (0, 0) _ rfl RR Try.underlying40 rfl (info_256 _ boxL_length)) rfl ⟨rfl, BBd⟩
        · have i1 : (k : Int) < 255 := by omega
          have i0 : (0 : Int) ≤ (k : Int) := by omega
          have hx := Lib.hid (fun W => index255 PW PL k (by omega) W)
          rw [PG k (by omega)] at hx
          obtain ⟨m, hm⟩ : ∃ m, m = (255 - k) % 255 := ⟨_, rfl⟩
          have m1 : m < 255 := by omega
          have im : ((255 : Int) - (k : Int)).tmod 255 = (m : Int) := by rw [Int.tmod_eq_emod_of_nonneg (by omega)]; omega
          have iw : wrap64 ((255 : Int) - (k : Int)) = (255 : Int) - (k : Int) := by unfold wrap64; omega
          have m2 : (m : Int) < 255 := by omega
          have m0 : (0 : Int) ≤ (m : Int) := by omega
          have c1 : wr.cell? ⟨w.heap.size + 1, m, none⟩ = some (.int .u8 ((powF m : Nat) : Int)) := by
            rw [Blk.cell P, NI_get _ _ (by omega), ← PG m (by omega)]
            simp [List.getD_eq_getElem?_getD, show m < PW.length by omega]
          have C := Lib.hid (turned_any (powF m) (powF_lt m))
          have es := Lib.hid (show tabF (k + 1) = (tabF k).set (powF k) (turnedN (powF m)) by rw [hm]; rfl)
          have lk := powF_lt k
          have hl := tabF_length k
          have lp : (0 : Int) ≤ ((powF k : Nat) : Int) := by omega
          have lq : ((powF k : Nat) : Int) < 256 := by omega
          generalize powF k = X at *
          generalize powF m = Y at *
          generalize turnedN Y = Z at *
          generalize tabF k = TT at *
          clear hm PG
          go_wp2_with fail
          rw [hx.out]
          simp only [Result.andThen_ok]
          go_wp2_with fail
          refine (C.out _).mono ?_
          rintro _ w1 ⟨rfl, b1⟩
          replace R := Blk.below' R b1
          replace P := Blk.below' P b1
          replace T := Blk.below' T b1
          replace hB := hB.trans (b1.mono hB.size)
          have c2 : w1.cell? ⟨gt, X, none⟩ = some (.int .u8 ((TT.getD X 0 : Nat) : Int)) := by
            rw [Blk.cell T, NI_get _ _ (by omega)]
            simp [List.getD_eq_getElem?_getD, show X < TT.length by omega]
          have f2 := Blk.frozen T X
          have T2 := Blk.set T X (.int .u8 ((Z : Nat) : Int))
          rw [ni_setIf, ← es.out] at T2
          have P2 : Blk (w1.setCell ⟨gt, X, none⟩ (.int .u8 ((Z : Nat) : Int))) (w.heap.size + 1) 47 _ := Blk.far (p := ⟨gt, X, none⟩) P gne _
          have R2 : Blk (w1.setCell ⟨gt, X, none⟩ (.int .u8 ((Z : Nat) : Int))) w.heap.size 40 _ := Blk.far (p := ⟨gt, X, none⟩) R g0 _
          have B2 := hB.setCell (p := ⟨gt, X, none⟩) gge (.int .u8 ((Z : Nat) : Int))
          clear hx C b1 P R T hB
          go_wp2
          exact ⟨⟨k + 1, by omega, rfl, R2, P2, T2, B2⟩, by simp only [intOf]; omega⟩
    · have i1 : (k : Int) < 255 := by omega
      have i0 : (0 : Int) ≤ (k : Int) := by omega
      have C := Lib.hid (triple_any (powF k) (powF_lt k))
      have es := Lib.hid (show powF (k + 1) = tripN (powF k) from rfl)
      have ep := Lib.hid (show pwF (k + 1) = (pwF k).set k (powF k) from rfl)
      have hl := pwF_length k
      have P1 := Blk.set P k (.int .u8 ((powF k : Nat) : Int))
      rw [ni_setIf, ← ep.out] at P1
      have R1 : Blk (wr.setCell ⟨w.heap.size + 1, k, none⟩ (.int .u8 ((powF k : Nat) : Int))) w.heap.size 40 _ := Blk.far (p := ⟨w.heap.size + 1, k, none⟩) R (by simp) _
      have c0 : wr.cell? ⟨w.heap.size + 1, k, none⟩ = some (.int .u8 (((pwF k).getD k 0 : Nat) : Int)) := by
        rw [Blk.cell P, NI_get _ _ (by omega)]
        simp [List.getD_eq_getElem?_getD, show k < (pwF k).length by omega]
      have f0 := Blk.frozen P k
      have hB1 := hB.setCell (p := ⟨w.heap.size + 1, k, none⟩) (Nat.le_succ _) (.int .u8 ((powF k : Nat) : Int))
      clear P R hB
      generalize powF k = X at *
      go_wp2_with fail
      refine (C.out _).mono ?_
      rintro _ w1 ⟨rfl, b1⟩
      generalize World.setCell wr _ _ = V at *
      have P2 := Blk.below' P1 b1
      have R2 := Blk.below' R1 b1
      have hB2 := hB1.trans (b1.mono hB1.size)
      clear P1 R1 hB1 b1 c0 f0
      go_wp2
      exact ⟨⟨k + 1, by omega, rfl, by rw [es.out], R2, P2, hB2⟩, by simp only [intOf]; omega⟩
end Go.Proofs.Ytnkjelamadpllaa
