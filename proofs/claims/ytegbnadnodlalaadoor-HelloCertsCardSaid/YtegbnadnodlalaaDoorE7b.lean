/- The reference's key and Cert (printed by gen14/en.py). -/
import Derived.Test.YtegbnadnodlalaaDoorE6b0E7a
import Derived.Test.YtegbnadnodlalaaDoorE6c
namespace Go.Proofs.YtegbnadnodlalaaDoor
open Go.RowKit
theorem pad_zero (n : Nat) (R : List Nat) : padN n (R.take 0) = List.replicate n 0 := by simp [padN]
theorem pad_set {n : Nat} {R : List Nat} (hR : R.length ≤ n) {j : Nat} (hj : j < R.length) : (padN n (R.take j)).set j R[j] = padN n (R.take (j + 1)) := by
  unfold padN
  have l1 : (R.take j).length = j := by rw [List.length_take]; omega
  have l2 : (R.take (j + 1)).length = j + 1 := by rw [List.length_take]; omega
  rw [l1, l2, List.set_append_right _ _ (by omega), l1, Nat.sub_self, show n - j = (n - (j + 1)) + 1 by omega, List.replicate_succ, List.set_cons_zero, ← List.take_append_getElem hj, List.append_assoc]
  rfl
theorem row_set (A B : List Value) (L : List Nat) (off j x : Nat) (hA : A.length = off) (hj : j < L.length) : (A ++ (vals L ++ B)).set (off + j) (.int .u8 (x : Int)) = A ++ (vals (L.set j x) ++ B) := by
  rw [List.set_append_right _ _ (by omega), hA, Nat.add_sub_cancel_left, List.set_append_left _ _ (by rw [vals_length]; exact hj)]
  congr 2
  unfold vals
  rw [List.map_set]
/-- A row into which the first j of the bytes R are put, from off on. -/
def rowJ (A B : List Value) (n : Nat) (R : List Nat) (j : Nat) : Array Value := (A ++ (vals (padN n (R.take j)) ++ B)).toArray
theorem rowJ_size (A B : List Value) {n : Nat} {R : List Nat} (hR : R.length ≤ n) (j : Nat) : (rowJ A B n R j).size = A.length + (n + B.length) := by
  unfold rowJ
  rw [List.size_toArray, List.length_append, List.length_append, vals_length, padN_length (by rw [List.length_take]; omega)]
theorem rowJ_step {w : World} {g : Nat} {ty : TypeId} {A B : List Value} {n off : Nat} {R : List Nat} {j : Nat} (hA : A.length = off) (hR : R.length ≤ n) (hj : j < R.length) (h : Blk w g ty (rowJ A B n R j)) : Blk (w.setCell ⟨g, off + j, none⟩ (.int .u8 ((R[j] : Nat) : Int))) g ty (rowJ A B n R (j + 1)) := by
  have h1 := Blk.set h (off + j) (.int .u8 ((R[j] : Nat) : Int))
  unfold rowJ at h1 ⊢
  rw [List.setIfInBounds_toArray, row_set A B _ off j R[j] hA (by rw [padN_length (by rw [List.length_take]; omega)]; omega), pad_set hR hj] at h1
  exact h1
theorem rowJ_cell {w : World} {g : Nat} {ty : TypeId} {A B : List Value} {n off : Nat} {R : List Nat} {j k : Nat} (hA : A.length = off) (hR : R.length ≤ n) (hk : k < n) (h : Blk w g ty (rowJ A B n R j)) : (w.cell? ⟨g, off + k, none⟩).isSome = true := by
  rw [h.cell, Array.getElem?_eq_getElem (by rw [rowJ_size A B hR]; omega)]
  rfl
theorem rowJ_full (A B : List Value) (n : Nat) (R : List Nat) : rowJ A B n R R.length = (A ++ (vals (padN n R) ++ B)).toArray := by
  unfold rowJ
  rw [List.take_length]
theorem gb_set2 (w : World) (g i : Nat) (v : Value) : w.grownBy (w.setCell ⟨g, i, none⟩ v) (some g) := gb_set rfl w i v
theorem key_row (R : List Nat) : (([] : List Value) ++ (vals (padN 32 R) ++ [])).toArray = Iv .u8 (NI (padN 32 R)) := by
  rw [vals_iv]
  simp
theorem zeros_row (R : List Nat) : (vals (List.replicate 32 0)).toArray = rowJ [] [] 32 R 0 := by
  unfold rowJ
  rw [pad_zero]
  simp
set_option maxHeartbeats 8000000 in
set_option maxRecDepth 100000 in
theorem rkey_m (B0 B : Nat) (p : Option Addr) (l : List Nat) (c : Nat) (W : World) (h : RX B0 B W p l c) :
    Calls Tryd.prog 31 #[.pointer p] W fun e w' => e = .returned (.agg (Iv .u8 (NI (padN 32 (tookS 32 l c).1)))) ∧ RX B0 B w' p (tookS 32 l c).2.1 (tookS 32 l c).2.2 ∧ W.grownBy w' (some B) := by
  have BC := Lib.hid (fun (w : World) (h : RX B0 B w p l c) => rbytes_m B0 B p l 32 c w h)
  have RL := tookS_len 32 l c
  have LP := padN_length RL
  generalize tookS 32 l c = T at *
  have HB := Lib.hid (And.intro h.lt h.lo)
  have H := Lib.hid h
  have KR32 := key_row T.1
  have ZR := Lib.hid (zeros_row T.1)
  have RL := Lib.hid RL
  rw [← KR32]
  have iz : (Tryd.prog.info? 34).map (·.size) = some (([] : List Value) ++ (vals (padN 32 T.1) ++ [])).toArray.size := by rw [KR32, Iv_size, NI_length, LP]; kernel_rfl
  have rs := rowJ_full [] [] 32 T.1
  rw [← rs] at iz ⊢
  have o1 : (rowJ [] [] 32 T.1 T.1.length).all (·.oneCell') = true := by rw [rs, KR32]; exact u8_ones _
  have zs := rowJ_size [] [] RL.out T.1.length
  have O1 := Lib.hid o1
  have zs : (rowJ [] [] 32 T.1 T.1.length).size = 32 := zs
  clear h KR32 LP rs o1
  go_enter Tryd.func31, Tryd.ntmps31
  go_upto_region 0 with fail
  rename_i aK
  refine wp_region_seq ?_
  refine wpSeq_wp rfl ?_
  unfold Oper.wp execOp
  go_simp
  refine wpSeq_nil ?_
  refine aK _ _ ?_
  clear aK
  generalize hW : World.alloc W _ = w1
  obtain ⟨Z, hZ, KR, b0⟩ : ∃ Z : Array Value, Z.size = 32 ∧ Blk w1 W.heap.size 34 Z ∧ Below W.heap.size W w1 := by
    rw [← hW]
    exact ⟨_, rfl, Blk.new _ _ _, (Below.refl _ _).alloc (Nat.le_refl _) _⟩
  clear hW
  go_upto_region 1 with fail
  rename_i aK
  refine wp_region_seq ?_
  refine wpSeq_wp rfl ?_
  unfold Oper.wp execOp
  go_simp
  generalize hW : World.alloc w1 _ = w2
  obtain ⟨KK, b3⟩ : Blk w2 w1.heap.size 34 (vals (List.replicate 32 0)).toArray ∧ Below w1.heap.size w1 w2 := by
    rw [← hW]
    exact ⟨Blk.new _ _ _, (Below.refl _ _).alloc (Nat.le_refl _) _⟩
  clear hW
  have NG := Lib.hid (show W.heap.size < w1.heap.size from KR.lt)
  replace KR := KR.below' b3
  replace b0 := b0.trans (b3.mono b0.size)
  clear b3
  obtain ⟨g3, hg3⟩ : ∃ g, w1.heap.size = g := ⟨_, rfl⟩
  rw [hg3] at KK NG ⊢
  clear hg3
  refine wpSeq_nil ?_
  refine (by assumption : ∀ (a : Act) (w : World), _ → _) _ _ ?_
  go_upto_region 2 with fail
  rename_i aK
  refine wp_region_seq ?_
  refine wpSeq_yield (S := fun _ => True) (yieldsIf_move rfl _ rfl (.pointer p) rfl) trivial ?_
  simp only [AP]
  refine wpSeq_wp rfl ?_
  unfold Oper.wp execOp
  go_simp
  refine (BC.out w2 (H.out.below b0)).mono ?_
  rintro _ w4 ⟨⟨v4, rfl, S4, NE⟩, R4, G4⟩
  obtain ⟨pv, cv, hv⟩ := S4.shape
  obtain ⟨m, hm⟩ : ∃ m, T.1.length = m := ⟨_, rfl⟩
  subst hv
  have NE := NE _ _ _ rfl
  rw [hm] at S4
  replace KK : Blk w4 g3 34 (vals (List.replicate 32 0)).toArray := (G4.block _ KK.lt (fun e => by have := Option.some.inj e; have := HB.out; have := NG.out; omega)).trans KK
  replace KR : Blk w4 W.heap.size 34 Z := (G4.block _ KR.lt (fun e => by have := Option.some.inj e; have := HB.out; omega)).trans KR
  have TW := gb_tr (gb_below b0 (some B)) G4
  clear BC G4 b0
  rw [hm]
  go_simp
  refine wpSeq_yield (S := fun _ => True) (yieldsIf_assign rfl _ rfl (.slice pv m cv) rfl) trivial ?_
  simp only [AP]
  refine wpSeq_nil ?_
  refine (by assumption : ∀ (a : Act) (w : World), _ → _) _ _ ?_
  go_upto_region 3 with fail
  rename_i aK
  refine wp_region_seq ?_
  refine wpSeq_yield (S := fun _ => True) (yieldsIf_assign rfl _ rfl (.int .i64 0) rfl) trivial ?_
  simp only [AP]
  refine wpSeq_nil ?_
  refine (by assumption : ∀ (a : Act) (w : World), _ → _) _ _ ?_
  rw [ZR.out] at KK
  rw [hm] at zs iz O1
  have HM := Lib.hid hm
  have D := Lib.hid (And.intro KK (World.grownBy.refl w4 (some g3)))
  have S4 := Lib.hid S4
  have KR := Lib.hid KR
  have TW := Lib.hid TW
  have R4 := Lib.hid R4
  clear KK hm ZR
  go_upto_region 4 with fail
  go_loopw [5] (fun v wr => ∃ j : Nat, j ≤ m ∧ v = .int .i64 (j : Int) ∧ Blk wr g3 34 (rowJ [] [] 32 T.1 j) ∧ w4.grownBy wr (some g3)) (fun v _ => (m - intOf v).toNat)
  case atStart => exact ⟨0, by omega, rfl, D.out.1, D.out.2⟩
  case round =>
    clear D
    obtain ⟨j, jm, rfl, KK, GG⟩ := hrel
    by_cases jj : j = m
    · subst jj
      have jf : ¬ (j : Int) < (j : Int) := by omega
      clear jm
      go_upto_region 4 with fail
      rename_i aK
      refine wp_region_seq ?_
      refine wpSeq_yield (S := fun _ => True) (yieldsIf_move rfl _ rfl (.int .i64 (j : Int)) rfl) trivial ?_
      simp only [AP]
      refine wpSeq_yield (S := fun _ => True) (yieldsIf_move rfl _ rfl (.slice pv j cv) rfl) trivial ?_
      simp only [AP]
      refine wpSeq_yield (S := fun _ => True) (v := .int .i64 (j : Int)) (Or.inl ⟨by rfl, fun w' hw' => by go_simp⟩) trivial ?_
      simp only [AP]
      refine wpSeq_yield (S := fun _ => True) (v := .bool false) (Or.inl ⟨by rfl, fun w' hw' => by (go_simp; try omega)⟩) trivial ?_
      simp only [AP]
      refine wpSeq_nil ?_
      refine (by assumption : ∀ (a : Act) (w : World), _ → _) _ _ ?_
      have KR1 : Blk wr W.heap.size 34 Z := (GG.block _ KR.out.lt (fun e => by have := Option.some.inj e; have := NG.out; omega)).trans KR.out
      have RR := R4.out.other GG (by have := NG.out; have := HB.out; have := H.out.lo; omega) (by have := NG.out; have := HB.out; omega)
      have TW2 : W.grownBy wr (some B) := ⟨GG.os.trans TW.out.os, GG.tape.trans TW.out.tape, GG.output.trans TW.out.output, Nat.le_trans TW.out.size GG.size, fun k hk hne => (GG.block k (Nat.lt_of_lt_of_le hk TW.out.size) (fun e => by have := Option.some.inj e; have := NG.out; omega)).trans (TW.out.block k hk hne)⟩
      clear GG R4 KR TW jf
      go_upto_region 7 with fail
      rename_i aK
      refine wp_region_seq ?_
      refine wpSeq_yield (S := fun w' => w' = wr) (show YieldsIf _ _ _ _ (.agg (rowJ [] [] 32 T.1 j)) _ from yieldsIf_row_wanted (S := fun w' => w' = wr) rfl 34 _ rfl g3 rfl 34 _ _ (fun _ h => h ▸ KK) Tryd.underlying34 rfl iz) rfl ?_
      simp only [AP]
      refine wpSeq_store_row rfl 34 _ _ rfl W.heap.size (rowJ [] [] 32 T.1 j) rfl rfl _ _ KR1 iz (by rw [hZ, zs]) O1.out ?_
      simp only [Act.put]
      refine wpSeq_nil ?_
      refine (by assumption : ∀ (a : Act) (w : World), _ → _) _ _ ?_
      have RM5 := RR.other (grown_one wr W.heap.size (rowJ [] [] 32 T.1 j)) (by have := HB.out; omega) (by have := HB.out; omega)
      have G5 : W.grownBy (wr.setRow W.heap.size (rowJ [] [] 32 T.1 j)) (some B) := ⟨TW2.os, TW2.tape, TW2.output, by rw [setRow_size]; exact TW2.size, fun k hk hne => (setRow_other wr _ k _ (by omega)).trans (TW2.block k hk hne)⟩
      go_wp2
      rw [HM.out]
      exact bodyPost_ret (results_cell_row rfl _ _ _ 34 _ (0, 0) _ rfl (Blk.row KR1 _) Tryd.underlying34 rfl iz) rfl ⟨rfl, RM5, G5⟩
    · have jl : j < m := by omega
      have jl' : j < T.1.length := by rw [HM.out]; exact jl
      have SV : SB wr (.slice pv m cv) T.1 := S4.out.keepL NE (fun k hk h0 => GG.block k hk (fun e => by have := Option.some.inj e; have := NG.out; have := HB.out; omega))
      obtain ⟨gb, ob, hpv, A⟩ : ∃ gb ob, pv = some ⟨gb, ob, none⟩ ∧ BA wr gb ob T.1 := by
        rcases SV.at_ with h | h
        · omega
        · exact h
      subst hpv
      have cb := A.cell j jl'
      obtain ⟨x, hx⟩ : ∃ x, T.1[j]'jl' = x := ⟨_, rfl⟩
      have ck := rowJ_cell (k := j) (off := 0) rfl RL.out (by have := RL.out; omega) KK
      have fk := KK.frozen (0 + j)
      have KS := rowJ_step (off := 0) rfl RL.out jl' KK
      have GS := gb_tr GG (gb_set2 wr g3 (0 + j) (.int .u8 ((T.1[j]'jl' : Nat) : Int)))
      rw [hx] at cb KS GS
      rw [Nat.zero_add] at ck fk KS GS
      have D := Lib.hid (And.intro KS GS)
      have z1 : (j : Int) < (m : Int) := by omega
      have z2 : (j : Int) < 32 := by have := RL.out; omega
      have z0 : (0 : Int) ≤ (j : Int) := by omega
      have e5 : IntKind.i64.wrap ((j : Int) + 1) = ((j + 1 : Nat) : Int) := by have := RL.out; rw [IntKind.wrap_i64]; omega
      have e5 := Lib.hid e5
      obtain ⟨u, cu⟩ := Option.isSome_iff_exists.1 ck
      clear A SV KS GS KK GG hx jl' ck
      go_upto_region 4 with fail
      rename_i aK
      refine wp_region_seq ?_
      refine wpSeq_yield (S := fun _ => True) (yieldsIf_move rfl _ rfl (.int .i64 (j : Int)) rfl) trivial ?_
      simp only [AP]
      refine wpSeq_yield (S := fun _ => True) (yieldsIf_move rfl _ rfl (.slice (some ⟨gb, ob, none⟩) m cv) rfl) trivial ?_
      simp only [AP]
      refine wpSeq_yield (S := fun _ => True) (v := .int .i64 (m : Int)) (Or.inl ⟨by rfl, fun w' hw' => by go_simp⟩) trivial ?_
      simp only [AP]
      refine wpSeq_yield (S := fun _ => True) (v := .bool true) (Or.inl ⟨by rfl, fun w' hw' => by (go_simp; try omega)⟩) trivial ?_
      simp only [AP]
      refine wpSeq_nil ?_
      refine (by assumption : ∀ (a : Act) (w : World), _ → _) _ _ ?_
      go_upto_region 6 with fail
      rename_i aK
      refine wp_region_seq ?_
      refine wpSeq_yield (S := fun _ => True) (yieldsIf_move rfl _ rfl (.int .i64 (j : Int)) rfl) trivial ?_
      simp only [AP]
      refine wpSeq_yield (S := fun _ => True) (yieldsIf_move rfl _ rfl (.slice (some ⟨gb, ob, none⟩) m cv) rfl) trivial ?_
      simp only [AP]
      refine wpSeq_yield (S := fun _ => True) (yieldsIf_move rfl _ rfl (.int .i64 (j : Int)) rfl) trivial ?_
      simp only [AP]
      refine wpSeq_yield (S := fun _ => True) (v := .pointer (some ⟨gb, ob + j, none⟩)) (Or.inl ⟨by rfl, fun w' hw' => by (go_simp)⟩) trivial ?_
      simp only [AP]
      refine wpSeq_yield (S := fun w' => w' = wr) (v := .int .u8 (x : Int)) (Or.inl ⟨by rfl, fun w' hw' => by (rw [hw']; go_simp)⟩) rfl ?_
      simp only [AP]
      refine wpSeq_yield (S := fun _ => True) (v := .pointer (some ⟨g3, j, none⟩)) (Or.inl ⟨by rfl, fun w' hw' => by (go_simp)⟩) trivial ?_
      simp only [AP]
      refine wpSeq_wp rfl ?_
      unfold Oper.wp execOp
      go_simp
      refine wpSeq_nil ?_
      refine (by assumption : ∀ (a : Act) (w : World), _ → _) _ _ ?_
      clear cb cu fk
      have e5 := e5.out
      go_upto_region 5 with fail
      rename_i aK
      refine wp_region_seq ?_
      refine wpSeq_yield (S := fun _ => True) (yieldsIf_move rfl _ rfl (.int .i64 (j : Int)) rfl) trivial ?_
      simp only [AP]
      refine wpSeq_yield (S := fun _ => True) (v := .int .i64 ((j + 1 : Nat) : Int)) (Or.inl ⟨by rfl, fun w' hw' => by go_simp⟩) trivial ?_
      simp only [AP]
      refine wpSeq_yield (S := fun _ => True) (yieldsIf_assign rfl _ rfl (.int .i64 ((j + 1 : Nat) : Int)) rfl) trivial ?_
      simp only [AP]
      refine wpSeq_nil ?_
      go_wp2
      exact ⟨⟨j + 1, by omega, rfl, D.out.1, D.out.2⟩, by simp only [intOf]; omega⟩
end Go.Proofs.YtegbnadnodlalaaDoor
