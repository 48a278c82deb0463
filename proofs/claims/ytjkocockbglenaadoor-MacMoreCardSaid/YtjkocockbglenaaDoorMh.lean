/- Strings of bytes; the law MacMore. -/
import Derived.Test.YtjkocockbglenaaDoorMi
namespace Go.Proofs.YtjkocockbglenaaDoor
open Go.RowKit

set_option maxHeartbeats 4000000 in
set_option maxRecDepth 100000 in
theorem more_any (w : World) (s info : List Nat) (v : Value) (n m : Nat) (T : Tab w cuT) (S : Sq w sqT) (ls : s.length = 32) (bs : Bytes s) (hv : SB w v info) (bi : Bytes info) (hn : n < 65536) (hm : m < 65536) :
    Calls Tryd.prog 6 #[.agg (Iv .u8 (NI s)), v, .int .u16 (n : Int), .int .u16 (m : Int)] w fun e w' => e = .returned (.bool true) ∧ Below w.heap.size w w' := by
  have hv' := hv
  obtain ⟨pp, cp, rfl, _⟩ := hv'
  go_enter Tryd.func6, Tryd.ntmps6
  go_upto_region 1 with fail
  have b0 := (Below.refl w.heap.size w).alloc (Nat.le_refl _) (.cells (Iv .u8 (NI s)) 25)
  have R0 := Blk.new w 25 (Iv .u8 (NI s))
  generalize World.alloc w _ = W at b0 R0 ⊢
  replace hv := hv.below b0
  replace T := T.below b0
  replace S := S.below b0
  have CA := Lib.hid (awake_any W T S)
  go_wp2_with fail
  refine CA.out.mono ?_
  rintro _ w1 ⟨rfl, b1⟩
  replace R0 := R0.below' b1
  replace hv := hv.below b1
  replace T := T.below b1
  replace S := S.below b1
  have B1 := b0.trans (b1.mono b0.size)
  clear CA b0 b1
  go_upto_region 3 with fail
  by_cases h100 : (100 : Int) < (info.length : Int)
  · go_wp2
    go_ret
    exact ⟨rfl, B1⟩
  · go_upto_region 6 with fail
    generalize (if m < n then (m : Int) else (n : Int)) = A
    generalize (if n < m then (m : Int) else (n : Int)) = B
    generalize hX : A % 900 = X
    generalize hY : B % 900 = Y
    have bX : 0 ≤ X ∧ X < 900 := by rw [← hX]; omega
    have bY : 0 ≤ Y ∧ Y < 900 := by rw [← hY]; omega
    clear hX hY
    obtain ⟨X, rfl⟩ : ∃ x : Nat, X = (x : Int) := ⟨X.toNat, by omega⟩
    obtain ⟨Y, rfl⟩ : ∃ x : Nat, Y = (x : Int) := ⟨Y.toNat, by omega⟩
    obtain ⟨lo, hlo⟩ : ∃ lo, lo = min X Y := ⟨_, rfl⟩
    obtain ⟨hi, hhi⟩ : ∃ hi, hi = max X Y := ⟨_, rfl⟩
    have e1 : (if Y < X then (Y : Int) else (X : Int)) = (lo : Int) := by rw [hlo]; split <;> omega
    have e2 : (if X < Y then (Y : Int) else (X : Int)) = (hi : Int) := by rw [hhi]; split <;> omega
    have l1 : lo ≤ hi := by omega
    have l2 : hi < 900 := by omega
    clear hlo hhi bX bY
    have CE := Lib.hid (expand_any cuT sqT w1 s info _ lo T S ls bs hv bi (by omega) (by omega))
    go_upto_region 6 with fail
    go_wp2_with (refine wpList_load_row rfl 25 _ rfl w.heap.size rfl 25 _ (0, 0) _ R0 Tryd.underlying25 rfl (info_N32 _ ls) ?_)
    refine CE.out.mono ?_
    rintro _ w2 ⟨p2, rfl, A2, b2, _⟩
    replace R0 := R0.below' b2
    replace hv := hv.below b2
    replace T := T.below b2
    replace S := S.below b2
    replace B1 := B1.trans (b2.mono B1.size)
    clear CE b2
    have CE := Lib.hid (expand_any cuT sqT w2 s info _ hi T S ls bs hv bi (by omega) (by omega))
    go_upto_region 7 with fail
    go_wp2_with (refine wpList_load_row rfl 25 _ rfl w.heap.size rfl 25 _ (0, 0) _ R0 Tryd.underlying25 rfl (info_N32 _ ls) ?_)
    refine CE.out.mono ?_
    rintro _ w3 ⟨p3, rfl, A3, b3, at3⟩
    replace R0 := R0.below' b3
    replace A2 := A2.below b3
    replace B1 := B1.trans (b3.mono B1.size)
    have HZ : p3 = none → hi = 0 := fun e => by
      rcases A3.at_ with h | ⟨g, o, e2, _⟩
      · exact h
      · rw [e] at e2; cases e2
    clear CE b3 hv T S
    have CE := Lib.hid (expand_out s w3 (.slice pp info.length cp) 8161 (by omega))
    go_upto_region 8 with fail
    go_wp2_with (refine wpList_load_row rfl 25 _ rfl w.heap.size rfl 25 _ (0, 0) _ R0 Tryd.underlying25 rfl (info_N32 _ ls) ?_)
    refine CE.out.mono ?_
    rintro _ w4 ⟨rfl, b4⟩
    replace A2 := A2.below b4
    replace A3 := A3.below b4
    replace B1 := B1.trans (b4.mono B1.size)
    clear CE b4 R0
    go_upto_region 9 with fail
    have l3 : (lo : Int) ≤ (hi : Int) := by omega
    have l4 : (0 : Int) ≤ (lo : Int) := by omega
    have A4 : SB w4 (.slice p3 lo hi) (expandL cuT sqT s info lo) := by
      have := A3.head lo l1
      rw [expandL_take _ _ _ _ _ _ l1] at this
      exact this
    have hS : SB (World.drew w4) (.slice p2 lo lo) (expandL cuT sqT s info lo) ∧ SB (World.drew w4) (.slice p3 lo hi) (expandL cuT sqT s info lo) := ⟨A2.drew, A4.drew⟩
    replace B1 := below_drew B1
    have HB := Lib.hid B1
    clear A2 A3 A4 B1
    refine wp_region_S (S := fun W' => SB W' (.slice p2 lo lo) (expandL cuT sqT s info lo) ∧ SB W' (.slice p3 lo hi) (expandL cuT sqT s info lo)) (by kernel_rfl) ?_
    generalize World.drew w4 = V at *
    refine wpAnyS_takeL 0 rfl (by kernel_rfl) (by kernel_rfl) (by kernel_rfl) (fun _ _ _ h => h) (yieldsIf_move rfl _ rfl _ rfl) hS ?_
    simp only [Act.put, List.setIfInBounds_toArray, List.set_cons_zero, List.set_cons_succ]
    refine wpAnyS_takeL 1 (v := (.bool true)) rfl (by kernel_rfl) (by kernel_rfl) (by kernel_rfl) (fun _ _ _ h => h) (Or.inl ⟨by rfl, ?_⟩) hS ?_
    · intro w' _
      go_simp
    simp only [Act.put, List.setIfInBounds_toArray, List.set_cons_zero, List.set_cons_succ]
    refine wpAnyS_takeL 2 rfl (by kernel_rfl) (by kernel_rfl) (by kernel_rfl) (fun _ _ _ h => h) (yieldsIf_move rfl _ rfl _ rfl) hS ?_
    simp only [Act.put, List.setIfInBounds_toArray, List.set_cons_zero, List.set_cons_succ]
    refine wpAnyS_takeL 3 rfl (by kernel_rfl) (by kernel_rfl) (by kernel_rfl) (fun _ _ _ h => h) (yieldsIf_move rfl _ rfl _ rfl) hS ?_
    simp only [Act.put, List.setIfInBounds_toArray, List.set_cons_zero, List.set_cons_succ]
    refine wpAnyS_takeL 4 (v := (.bool true)) rfl (by kernel_rfl) (by kernel_rfl) (by kernel_rfl) (fun _ _ _ h => h) (Or.inl ⟨by rfl, ?_⟩) hS ?_
    · intro w' _
      go_simp
    simp only [Act.put, List.setIfInBounds_toArray, List.set_cons_zero, List.set_cons_succ]
    refine wpAnyS_takeL 5 rfl (by kernel_rfl) (by kernel_rfl) (by kernel_rfl) (fun _ _ _ h => h) (yieldsIf_pick rfl _ _ _ rfl true rfl _ rfl) hS ?_
    simp only [Act.put, List.setIfInBounds_toArray, List.set_cons_zero, List.set_cons_succ]
    refine wpAnyS_takeL 6 rfl (by kernel_rfl) (by kernel_rfl) (by kernel_rfl) (fun _ _ _ h => h) (yieldsIf_move rfl _ rfl _ rfl) hS ?_
    simp only [Act.put, List.setIfInBounds_toArray, List.set_cons_zero, List.set_cons_succ]
    refine wpAnyS_takeL 7 rfl (by kernel_rfl) (by kernel_rfl) (by kernel_rfl) (fun _ _ _ h => h) (yieldsIf_move rfl _ rfl _ rfl) hS ?_
    simp only [Act.put, List.setIfInBounds_toArray, List.set_cons_zero, List.set_cons_succ]
    refine wpAnyS_takeL 8 (v := (.bool true)) rfl (by kernel_rfl) (by kernel_rfl) (by kernel_rfl) (fun _ _ _ h => h) (Or.inl ⟨by rfl, ?_⟩) hS ?_
    · intro w' _
      go_simp
    simp only [Act.put, List.setIfInBounds_toArray, List.set_cons_zero, List.set_cons_succ]
    refine wpAnyS_takeL 9 rfl (by kernel_rfl) (by kernel_rfl) (by kernel_rfl) (fun _ _ _ h => h) (yieldsIf_pick rfl _ _ _ rfl true rfl _ rfl) hS ?_
    simp only [Act.put, List.setIfInBounds_toArray, List.set_cons_zero, List.set_cons_succ]
    refine wpAnyS_takeL 10 rfl (by kernel_rfl) (by kernel_rfl) (by kernel_rfl) (fun _ _ _ h => h) (yieldsIf_move rfl _ rfl _ rfl) hS ?_
    simp only [Act.put, List.setIfInBounds_toArray, List.set_cons_zero, List.set_cons_succ]
    refine wpAnyS_takeL 11 rfl (by kernel_rfl) (by kernel_rfl) (by kernel_rfl) (fun _ _ _ h => h) (yieldsIf_move rfl _ rfl _ rfl) hS ?_
    simp only [Act.put, List.setIfInBounds_toArray, List.set_cons_zero, List.set_cons_succ]
    refine wpAnyS_takeL 12 (v := (.int .i64 (hi : Int))) rfl (by kernel_rfl) (by kernel_rfl) (by kernel_rfl) (fun _ _ _ h => h) (Or.inl ⟨by rfl, ?_⟩) hS ?_
    · intro w' _
      go_simp
    simp only [Act.put, List.setIfInBounds_toArray, List.set_cons_zero, List.set_cons_succ]
    refine wpAnyS_takeL 13 rfl (by kernel_rfl) (by kernel_rfl) (by kernel_rfl) (fun _ _ _ h => h) (yieldsIf_move rfl _ rfl _ rfl) hS ?_
    simp only [Act.put, List.setIfInBounds_toArray, List.set_cons_zero, List.set_cons_succ]
    refine wpAnyS_takeL 14 rfl (by kernel_rfl) (by kernel_rfl) (by kernel_rfl) (fun _ _ _ h => h) (yieldsIf_move rfl _ rfl _ rfl) hS ?_
    simp only [Act.put, List.setIfInBounds_toArray, List.set_cons_zero, List.set_cons_succ]
    refine wpAnyS_takeL 15 (v := (.int .i64 (hi : Int))) rfl (by kernel_rfl) (by kernel_rfl) (by kernel_rfl) (fun _ _ _ h => h) (Or.inl ⟨by rfl, ?_⟩) hS ?_
    · intro w' _
      go_simp
    simp only [Act.put, List.setIfInBounds_toArray, List.set_cons_zero, List.set_cons_succ]
    refine wpAnyS_takeL 16 (v := (.bool true)) rfl (by kernel_rfl) (by kernel_rfl) (by kernel_rfl) (fun _ _ _ h => h) (Or.inl ⟨by rfl, ?_⟩) hS ?_
    · intro w' _
      go_simp
    simp only [Act.put, List.setIfInBounds_toArray, List.set_cons_zero, List.set_cons_succ]
    refine wpAnyS_takeL 17 rfl (by kernel_rfl) (by kernel_rfl) (by kernel_rfl) (fun _ _ _ h => h) (yieldsIf_pick rfl _ _ _ rfl true rfl _ rfl) hS ?_
    simp only [Act.put, List.setIfInBounds_toArray, List.set_cons_zero, List.set_cons_succ]
    refine wpAnyS_takeL 18 rfl (by kernel_rfl) (by kernel_rfl) (by kernel_rfl) (fun _ _ _ h => h) (yieldsIf_move rfl _ rfl _ rfl) hS ?_
    simp only [Act.put, List.setIfInBounds_toArray, List.set_cons_zero, List.set_cons_succ]
    refine wpAnyS_takeL 19 rfl (by kernel_rfl) (by kernel_rfl) (by kernel_rfl) (fun _ _ _ h => h) (yieldsIf_move rfl _ rfl _ rfl) hS ?_
    simp only [Act.put, List.setIfInBounds_toArray, List.set_cons_zero, List.set_cons_succ]
    refine wpAnyS_takeL 20 rfl (by kernel_rfl) (by kernel_rfl) (by kernel_rfl) (fun _ _ _ h => h) (yieldsIf_move rfl _ rfl _ rfl) hS ?_
    simp only [Act.put, List.setIfInBounds_toArray, List.set_cons_zero, List.set_cons_succ]
    refine wpAnyS_takeL 21 (v := (.int .i64 (lo : Int))) rfl (by kernel_rfl) (by kernel_rfl) (by kernel_rfl) (fun _ _ _ h => h) (Or.inl ⟨by rfl, ?_⟩) hS ?_
    · intro w' _
      go_simp
    simp only [Act.put, List.setIfInBounds_toArray, List.set_cons_zero, List.set_cons_succ]
    refine wpAnyS_takeL 22 (v := (.slice p3 lo hi)) rfl (by kernel_rfl) (by kernel_rfl) (by kernel_rfl) (fun _ _ _ h => h) (Or.inl ⟨by rfl, ?_⟩) hS ?_
    · intro w' _
      go_simp
    simp only [Act.put, List.setIfInBounds_toArray, List.set_cons_zero, List.set_cons_succ]
    refine wpAnyS_takeL 23 rfl (by kernel_rfl) (by kernel_rfl) (by kernel_rfl) (fun _ _ _ h => h) (yieldsIf_conv rfl _ rfl (.slice p3 lo hi) rfl (expandL cuT sqT s info lo) (fun _ h => h.2)) hS ?_
    simp only [Act.put, List.setIfInBounds_toArray, List.set_cons_zero, List.set_cons_succ]
    refine wpAnyS_takeL 24 rfl (by kernel_rfl) (by kernel_rfl) (by kernel_rfl) (fun _ _ _ h => h) (yieldsIf_move rfl _ rfl _ rfl) hS ?_
    simp only [Act.put, List.setIfInBounds_toArray, List.set_cons_zero, List.set_cons_succ]
    refine wpAnyS_takeL 25 rfl (by kernel_rfl) (by kernel_rfl) (by kernel_rfl) (fun _ _ _ h => h) (yieldsIf_conv rfl _ rfl (.slice p2 lo lo) rfl (expandL cuT sqT s info lo) (fun _ h => h.1)) hS ?_
    simp only [Act.put, List.setIfInBounds_toArray, List.set_cons_zero, List.set_cons_succ]
    refine wpAnyS_takeL 26 (v := (.bool true)) rfl (by kernel_rfl) (by kernel_rfl) (by kernel_rfl) (fun _ _ _ h => h) (Or.inl ⟨by rfl, ?_⟩) hS ?_
    · intro w' _
      go_simp
    simp only [Act.put, List.setIfInBounds_toArray, List.set_cons_zero, List.set_cons_succ]
    refine wpAnyS_takeL 27 rfl (by kernel_rfl) (by kernel_rfl) (by kernel_rfl) (fun _ _ _ h => h) (yieldsIf_pick rfl _ _ _ rfl true rfl _ rfl) hS ?_
    simp only [Act.put, List.setIfInBounds_toArray, List.set_cons_zero, List.set_cons_succ]
    refine wpAnyS_takeL 28 rfl (by kernel_rfl) (by kernel_rfl) (by kernel_rfl) (fun _ _ _ h => h) (yieldsIf_move rfl _ rfl _ rfl) hS ?_
    simp only [Act.put, List.setIfInBounds_toArray, List.set_cons_zero, List.set_cons_succ]
    refine wpAnyS_takeL 29 rfl (by kernel_rfl) (by kernel_rfl) (by kernel_rfl) (fun _ _ _ h => h) (yieldsIf_move rfl _ rfl _ rfl) hS ?_
    simp only [Act.put, List.setIfInBounds_toArray, List.set_cons_zero, List.set_cons_succ]
    refine wpAnyS_takeL 30 (v := (.int .i64 (lo : Int))) rfl (by kernel_rfl) (by kernel_rfl) (by kernel_rfl) (fun _ _ _ h => h) (Or.inl ⟨by rfl, ?_⟩) hS ?_
    · intro w' _
      go_simp
    simp only [Act.put, List.setIfInBounds_toArray, List.set_cons_zero, List.set_cons_succ]
    refine wpAnyS_takeL 31 rfl (by kernel_rfl) (by kernel_rfl) (by kernel_rfl) (fun _ _ _ h => h) (yieldsIf_move rfl _ rfl _ rfl) hS ?_
    simp only [Act.put, List.setIfInBounds_toArray, List.set_cons_zero, List.set_cons_succ]
    refine wpAnyS_takeL 32 rfl (by kernel_rfl) (by kernel_rfl) (by kernel_rfl) (fun _ _ _ h => h) (yieldsIf_move rfl _ rfl _ rfl) hS ?_
    simp only [Act.put, List.setIfInBounds_toArray, List.set_cons_zero, List.set_cons_succ]
    refine wpAnyS_takeL 33 (v := (.int .i64 (lo : Int))) rfl (by kernel_rfl) (by kernel_rfl) (by kernel_rfl) (fun _ _ _ h => h) (Or.inl ⟨by rfl, ?_⟩) hS ?_
    · intro w' _
      go_simp
    simp only [Act.put, List.setIfInBounds_toArray, List.set_cons_zero, List.set_cons_succ]
    refine wpAnyS_takeL 34 (v := (.bool true)) rfl (by kernel_rfl) (by kernel_rfl) (by kernel_rfl) (fun _ _ _ h => h) (Or.inl ⟨by rfl, ?_⟩) hS ?_
    · intro w' _
      go_simp
    simp only [Act.put, List.setIfInBounds_toArray, List.set_cons_zero, List.set_cons_succ]
    refine wpAnyS_takeL 35 rfl (by kernel_rfl) (by kernel_rfl) (by kernel_rfl) (fun _ _ _ h => h) (yieldsIf_pick rfl _ _ _ rfl true rfl _ rfl) hS ?_
    simp only [Act.put, List.setIfInBounds_toArray, List.set_cons_zero, List.set_cons_succ]
    refine wpAnyS_takeL 36 rfl (by kernel_rfl) (by kernel_rfl) (by kernel_rfl) (fun _ _ _ h => h) (show YieldsIf _ _ _ _ (.bool true) _ from yieldsIf_assign rfl _ rfl _ rfl) hS ?_
    simp only [Act.put, List.setIfInBounds_toArray, List.set_cons_zero, List.set_cons_succ]
    refine wpAnyS_done (by kernel_rfl) ?_ _
    clear hS
    rename_i aK
    refine aK _ _ ?_
    clear aK
    refine wp_ret ?_
    exact bodyPost_ret (results_tmp rfl _ _ _) rfl ⟨rfl, HB.out⟩
end Go.Proofs.YtjkocockbglenaaDoor
