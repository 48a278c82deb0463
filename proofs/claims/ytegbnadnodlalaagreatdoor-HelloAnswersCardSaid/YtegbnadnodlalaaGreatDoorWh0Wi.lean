/- The reference's Num (printed by gen14/wh.py). The reference's params and Params (printed by gen14/wi.py). -/
import Derived.Test.YtegbnadnodlalaaGreatDoorE6a0E6c
import Derived.Test.YtegbnadnodlalaaGreatDoorRn0E3a
import Derived.Test.YtegbnadnodlalaaGreatDoorWb0Wd
import Derived.Test.YtegbnadnodlalaaGreatDoorE7b0Wa
namespace Go.Proofs.YtegbnadnodlalaaGreatDoor
open Go.RowKit
/-- A number of its bytes, the first one's highest two bits left out. -/
def accN : List Nat → Nat
 | [] => 0
 | x :: r => beN (x % 64) r
theorem accN_one {L : List Nat} (h : 0 < L.length) : accN (L.take (0 + 1)) = L[0] % 64 := by
 cases L with
 | nil => cases h
 | cons x r => rfl
theorem accN_step {L : List Nat} {j : Nat} (h0 : 0 < j) (hj : j < L.length) : accN (L.take (j + 1)) = accN (L.take j) * 256 + L[j] := by
 cases L with
 | nil => cases hj
 | cons x r =>
  cases j with
  | zero => cases h0
  | succ i =>
   have hi : i < r.length := by simpa using hj
   show beN (x % 64) (r.take (i + 1)) = beN (x % 64) (r.take i) * 256 + _
   rw [List.take_succ_eq_append_getElem hi, beN_append]
   rfl
theorem accN_lt {L : List Nat} (hb : Bytes L) {j : Nat} (hj : j ≤ 7) : accN (L.take j) < 72057594037927936 := by
 cases L with
 | nil => rw [List.take_nil]; decide
 | cons x r =>
  cases j with
  | zero => show 0 < 72057594037927936; decide
  | succ i =>
   show beN (x % 64) (r.take i) < _
   have := beN_lt (r.take i) (x % 64) 64 (fun y hy => hb y (List.mem_cons_of_mem _ (List.mem_of_mem_take hy))) (Nat.mod_lt _ (by decide))
   have l : (r.take i).length ≤ 6 := by rw [List.length_take]; omega
   have := Nat.pow_le_pow_right (show 0 < 256 by decide) l
   omega
theorem numS_took (x : Nat) (t : List Nat) : numS (x :: t) 0 = (accN (tookS (2 ^ (x / 64)) (x :: t) 0).1, (tookS (2 ^ (x / 64)) (x :: t) 0).2.1, (tookS (2 ^ (x / 64)) (x :: t) 0).2.2) := by
 unfold tookS
 rw [if_neg (by decide)]
 by_cases hs : t.length + 1 < 2 ^ (x / 64)
 ·
  rw [numS_none (x :: t) (if_pos hs), if_pos (by rw [List.length_cons]; exact hs)]
  rfl
 ·
  unfold numS
  rw [if_neg (by decide), show takeV (x :: t) = some (beN (x % 64) (t.take (2 ^ (x / 64) - 1)), t.drop (2 ^ (x / 64) - 1)) from if_neg hs, if_neg (by rw [List.length_cons]; exact hs)]
  have h1 : 0 < 2 ^ (x / 64) := Nat.pow_pos (by decide)
  obtain ⟨s, hs⟩ : ∃ s, 2 ^ (x / 64) = s + 1 := ⟨2 ^ (x / 64) - 1, by omega⟩
  rw [hs]
  rfl
theorem tookS_bytes {l : List Nat} (h : Bytes l) (n c : Nat) : Bytes (tookS n l c).1 ∧ Bytes (tookS n l c).2.1 := by
 unfold tookS
 split
 · exact ⟨(fun x hx => by cases hx), h⟩
 ·
  split
  · exact ⟨(fun x hx => by cases hx), h⟩
  · exact ⟨fun x hx => h x (List.mem_of_mem_take hx), fun x hx => h x (List.mem_of_mem_drop hx)⟩
set_option maxHeartbeats 8000000 in
set_option maxRecDepth 100000 in
theorem rnum_some (B0 B : Nat) (p : Option Addr) (x : Nat) (t : List Nat) (W : World) (h : RX B0 B W p (x :: t) 0) (bb : Bytes (x :: t)) :
  Calls Tryz.prog 46 #[.pointer p] W fun e w' => e = .returned (.int .u64 ((accN (tookS (2 ^ (x / 64)) (x :: t) 0).1 : Nat) : Int)) ∧ RX B0 B w' p (tookS (2 ^ (x / 64)) (x :: t) 0).2.1 (tookS (2 ^ (x / 64)) (x :: t) 0).2.2 ∧ W.grownBy w' (some B) := by
 have BC := rbytes_m B0 B p (x :: t) (2 ^ (x / 64)) 0 W h
 have TL := tookS_len (2 ^ (x / 64)) (x :: t) 0
 have TB := (tookS_bytes bb (2 ^ (x / 64)) 0).1
 generalize tookS (2 ^ (x / 64)) (x :: t) 0 = T at *
 have x8 : x < 256 := bb x (by simp)
 obtain ⟨k, hk⟩ : ∃ k, x / 64 = k := ⟨_, rfl⟩
 rw [hk] at BC TL
 have k3 : k ≤ 3 := by omega
 have s8 : 2 ^ k ≤ 8 := Nat.pow_le_pow_right (show 0 < 2 by decide) k3
 replace TL : T.1.length ≤ 8 := Nat.le_trans TL s8
 replace BC := Lib.hid BC
 replace TB := Lib.hid TB
 obtain ⟨N, hN⟩ : ∃ N, accN T.1 = N := ⟨_, rfl⟩
 rw [hN]
 have HN := Lib.hid hN
 clear hN
 obtain ⟨rfl, c1, f1⟩ := h.cell
 obtain ⟨⟨pb, cb, _, K, S, ne⟩, lo, sm⟩ := h
 have cc0 : W.cell? ⟨B, 0, none⟩ = some (.slice pb (x :: t).length cb) := K.cell 0
 replace c1 : W.cell? ⟨B, 1, none⟩ = some (.int .i64 0) := c1
 obtain ⟨gb, ob, hpv, A⟩ : ∃ gb ob, pb = some ⟨gb, ob, none⟩ ∧ BA W gb ob (x :: t) := by
  rcases S.at_ with h | h
  · cases h
  · exact h
 subst hpv
 have cx := A.cell 0 (by simp)
 rw [Nat.add_zero] at cx
 replace cx : W.cell? ⟨gb, ob, none⟩ = some (.int .u8 (x : Int)) := cx
 obtain ⟨ln, hln⟩ : ∃ m, (x :: t).length = m := ⟨_, rfl⟩
 have m0 : ¬ (ln : Int) = 0 := by simp only [List.length_cons] at hln; omega
 have m1 : 0 < ln := by omega
 have m2 : (0 : Int) < (ln : Int) := by omega
 rw [hln] at cc0
 have HK := Lib.hid (And.intro hk (And.intro x8 s8))
 clear K S ne lo sm A hln bb f1 hk x8 s8
 go_enter Tryz.func46, Tryz.ntmps46
 go_upto_region 8 with fail
 go_loopw [3, 4] (fun v u wr => ∃ i D : Nat, i ≤ k ∧ D = 2 ^ i ∧ v = .int .u64 (D : Int) ∧ u = .int .u8 (i : Int) ∧ wr = W) (fun _ u _ => (k - intOf u).toNat)
 case atStart => exact ⟨0, 1, by omega, rfl, rfl, rfl, rfl⟩
 case round =>
  obtain ⟨i, D, hi, hD, rfl, rfl, hw⟩ := hrel
  subst hw
  by_cases hik : i = k
  ·
   subst hik
   have jf : ¬ (i : Int) < (i : Int) := by omega
   rw [← hD] at BC
   clear hD
   go_upto_region 8 with fail
   rename_i aK
   refine wp_region_seq ?_
   refine smv (.int .u8 (i : Int)) rfl rfl rfl ?_
   simp only [AP]
   refine smv (.pointer (some ⟨B, 0, none⟩)) rfl rfl rfl ?_
   simp only [AP]
   refine svl (.pointer (some ⟨B, 0, none⟩)) (.inl ⟨by rfl, fun w' _ => by go_simp⟩) ?_
   simp only [AP]
   refine svl (.pointer (some ⟨B, 0, none⟩)) (.inl ⟨by rfl, fun w' _ => by go_simp⟩) ?_
   simp only [AP]
   refine wpSeq_yield (S := fun w' => w' = wr) (v := .slice (some ⟨gb, ob, none⟩) ln cb) (Or.inl ⟨by rfl, fun w' hw' => by (rw [hw']; go_simp)⟩) rfl ?_
   simp only [AP]
   refine svl (.pointer (some ⟨gb, ob, none⟩)) (.inl ⟨by rfl, fun w' _ => by (go_simp)⟩) ?_
   simp only [AP]
   refine wpSeq_yield (S := fun w' => w' = wr) (v := .int .u8 (x : Int)) (Or.inl ⟨by rfl, fun w' hw' => by (rw [hw']; go_simp)⟩) rfl ?_
   simp only [AP]
   refine svl (.int .u8 (i : Int)) (.inl ⟨by rfl, fun w' _ => by (go_simp; have hx := HK.out; try omega)⟩) ?_
   simp only [AP]
   refine svl (.bool false) (.inl ⟨by rfl, fun w' _ => by (go_simp; try omega)⟩) ?_
   simp only [AP]
   refine wpSeq_nil ?_
   refine (by assumption : ∀ (a : Act) (w : World), _ → _) _ _ ?_
   clear cc0 cx c1 m0 m1 m2 jf
   go_upto_region 11 with fail
   rename_i aK
   refine wp_region_seq ?_
   refine smv (.pointer (some ⟨B, 0, none⟩)) rfl rfl rfl ?_
   simp only [AP]
   refine smv (.int .u64 (D : Int)) rfl rfl rfl ?_
   simp only [AP]
   refine wpSeq_wp rfl ?_
   unfold Oper.wp execOp
   go_simp
   refine BC.out.mono ?_
   rintro _ w1 ⟨⟨v5, rfl, S4, NE⟩, R4, G4⟩
   obtain ⟨pv, cv, hv⟩ := S4.shape
   obtain ⟨m, hm⟩ : ∃ m, T.1.length = m := ⟨_, rfl⟩
   subst hv
   clear NE BC
   rw [hm] at S4 ⊢
   go_simp
   refine sas (.slice pv m cv) rfl rfl rfl ?_
   simp only [AP]
   refine wpSeq_nil ?_
   refine (by assumption : ∀ (a : Act) (w : World), _ → _) _ _ ?_
   go_upto_region 12 with fail
   rename_i aK
   refine wp_region_seq ?_
   refine sas (.int .u64 0) rfl rfl rfl ?_
   simp only [AP]
   refine wpSeq_nil ?_
   refine (by assumption : ∀ (a : Act) (w : World), _ → _) _ _ ?_
   go_upto_region 13 with fail
   rename_i aK
   refine wp_region_seq ?_
   refine sas (.int .i64 0) rfl rfl rfl ?_
   simp only [AP]
   refine wpSeq_nil ?_
   refine (by assumption : ∀ (a : Act) (w : World), _ → _) _ _ ?_
   have HM := Lib.hid hm
   rw [hm] at TL
   have S4 := Lib.hid S4
   have R4 := Lib.hid R4
   have G4 := Lib.hid G4
   clear hm
   go_upto_region 14 with fail
   go_loopw [6, 7] (fun v u wr => ∃ j : Nat, j ≤ m ∧ v = .int .u64 ((accN (T.1.take j) : Nat) : Int) ∧ u = .int .i64 (j : Int) ∧ wr = w1) (fun _ u _ => (m - intOf u).toNat)
   case atStart => exact ⟨0, by omega, rfl, rfl, rfl⟩
   case round =>
    obtain ⟨j, jm, rfl, rfl, hw⟩ := hrel
    subst hw
    by_cases jj : j = m
    ·
     subst jj
     have jf : ¬ (j : Int) < (j : Int) := by omega
     have eT : T.1.take j = T.1 := List.take_of_length_le (by rw [HM.out]; exact Nat.le_refl _)
     rw [eT, HN.out]
     clear eT jm
     go_upto_region 14 with fail
     rename_i aK
     refine wp_region_seq ?_
     refine smv (.int .i64 (j : Int)) rfl rfl rfl ?_
     simp only [AP]
     refine smv (.slice pv j cv) rfl rfl rfl ?_
     simp only [AP]
     refine svl (.int .i64 (j : Int)) (.inl ⟨by rfl, fun w' _ => by go_simp⟩) ?_
     simp only [AP]
     refine svl (.bool false) (.inl ⟨by rfl, fun w' _ => by (go_simp; try omega)⟩) ?_
     simp only [AP]
     refine wpSeq_nil ?_
     refine (by assumption : ∀ (a : Act) (w : World), _ → _) _ _ ?_
     go_upto_region 19 with fail
     rename_i aK
     refine wp_region_seq ?_
     refine smv (.int .u64 (N : Int)) rfl rfl rfl ?_
     simp only [AP]
     refine sas (.int .u64 (N : Int)) rfl rfl rfl ?_
     simp only [AP]
     refine wpSeq_nil ?_
     go_wp2
     go_ret
     exact ⟨rfl, R4.out, G4.out⟩
    ·
     have jl : j < m := by omega
     have jl' : j < T.1.length := by rw [HM.out]; exact jl
     obtain ⟨gc, oc, hpv, A⟩ : ∃ gb ob, pv = some ⟨gb, ob, none⟩ ∧ BA wr gb ob T.1 := by
      rcases S4.out.at_ with h | h
      · omega
      · exact h
     subst hpv
     have cy := A.cell j jl'
     have y8 : T.1[j]'jl' < 256 := TB.out _ (List.getElem_mem jl')
     have a56 := accN_lt TB.out (show j ≤ 7 by omega)
     have ES := Lib.hid (fun (h0 : 0 < j) => accN_step h0 jl')
     have EO := Lib.hid (fun (h0 : 0 < T.1.length) => accN_one h0)
     obtain ⟨y, hy⟩ : ∃ y, T.1[j]'jl' = y := ⟨_, rfl⟩
     rw [hy] at cy y8 ES
     obtain ⟨acc, hacc⟩ : ∃ acc, accN (T.1.take j) = acc := ⟨_, rfl⟩
     rw [hacc] at a56 ES
     obtain ⟨D2, hD2⟩ : ∃ D, acc * 256 = D := ⟨_, rfl⟩
     obtain ⟨F2, hF2⟩ : ∃ F, D2 + y = F := ⟨_, rfl⟩
     have e1 : IntKind.u64.wrap ((acc : Int) * 256) = (D2 : Int) := by rw [IntKind.wrap_u64]; omega
     have e2 : IntKind.u64.wrap ((D2 : Int) + (y : Int)) = (F2 : Int) := by rw [IntKind.wrap_u64]; omega
     have e3 : IntKind.u64.wrap (y : Int) = (y : Int) := by rw [IntKind.wrap_u64]; omega
     have e5 : IntKind.i64.wrap ((j : Int) + 1) = ((j + 1 : Nat) : Int) := by rw [IntKind.wrap_i64]; omega
     have z1 : (j : Int) < (m : Int) := by omega
     have z0 : (0 : Int) ≤ (j : Int) := by omega
     have HY := Lib.hid hy
     have HA := Lib.hid hacc
     rw [hacc]
     clear A hy hacc
     go_upto_region 14 with fail
     rename_i aK
     refine wp_region_seq ?_
     refine smv (.int .i64 (j : Int)) rfl rfl rfl ?_
     simp only [AP]
     refine smv (.slice (some ⟨gc, oc, none⟩) m cv) rfl rfl rfl ?_
     simp only [AP]
     refine svl (.int .i64 (m : Int)) (.inl ⟨by rfl, fun w' _ => by go_simp⟩) ?_
     simp only [AP]
     refine svl (.bool true) (.inl ⟨by rfl, fun w' _ => by (go_simp; try omega)⟩) ?_
     simp only [AP]
     refine wpSeq_nil ?_
     refine (by assumption : ∀ (a : Act) (w : World), _ → _) _ _ ?_
     go_upto_region 16 with fail
     rename_i aK
     refine wp_region_seq ?_
     refine smv (.int .u64 (acc : Int)) rfl rfl rfl ?_
     simp only [AP]
     refine svl (.int .u64 (D2 : Int)) (.inl ⟨by rfl, fun w' _ => by (go_simp)⟩) ?_
     simp only [AP]
     refine smv (.slice (some ⟨gc, oc, none⟩) m cv) rfl rfl rfl ?_
     simp only [AP]
     refine smv (.int .i64 (j : Int)) rfl rfl rfl ?_
     simp only [AP]
     refine svl (.pointer (some ⟨gc, oc + j, none⟩)) (.inl ⟨by rfl, fun w' _ => by (go_simp)⟩) ?_
     simp only [AP]
     refine wpSeq_yield (S := fun w' => w' = wr) (v := .int .u8 (y : Int)) (Or.inl ⟨by rfl, fun w' hw' => by (rw [hw']; go_simp)⟩) rfl ?_
     simp only [AP]
     refine svl (.int .u64 (y : Int)) (.inl ⟨by rfl, fun w' _ => by (go_simp)⟩) ?_
     simp only [AP]
     refine svl (.int .u64 (F2 : Int)) (.inl ⟨by rfl, fun w' _ => by (go_simp)⟩) ?_
     simp only [AP]
     refine sas (.int .u64 (F2 : Int)) rfl rfl rfl ?_
     simp only [AP]
     refine wpSeq_nil ?_
     refine (by assumption : ∀ (a : Act) (w : World), _ → _) _ _ ?_
     clear cy e1 e2 e3
     by_cases j0 : j = 0
     ·
      subst j0
      have t0 : T.1.length = m := HM.out
      have F64 : F2 % 64 = accN (T.1.take (0 + 1)) := by
       rw [EO.out (by omega), HY.out]
       have : acc = 0 := by rw [← HA.out]; rfl
       omega
      have e6 : (F2 : Int).tmod 64 = ((F2 % 64 : Nat) : Int) := by rw [Int.tmod_eq_emod_of_nonneg (by omega)]; omega
      obtain ⟨f6, hf6⟩ : ∃ f, F2 % 64 = f := ⟨_, rfl⟩
      rw [hf6] at e6 F64
      have H6 := Lib.hid F64
      have z3 : ((0 : Nat) : Int) = 0 := rfl
      clear F64 hf6 EO ES HA HY t0
      go_upto_region 17 with fail
      rename_i aK
      refine wp_region_seq ?_
      refine smv (.int .i64 ((0 : Nat) : Int)) rfl rfl rfl ?_
      simp only [AP]
      refine svl (.bool true) (.inl ⟨by rfl, fun w' _ => by (go_simp; try omega)⟩) ?_
      simp only [AP]
      refine wpSeq_nil ?_
      refine (by assumption : ∀ (a : Act) (w : World), _ → _) _ _ ?_
      go_upto_region 18 with fail
      rename_i aK
      refine wp_region_seq ?_
      refine smv (.int .u64 (F2 : Int)) rfl rfl rfl ?_
      simp only [AP]
      refine svl (.int .u64 (f6 : Int)) (.inl ⟨by rfl, fun w' _ => by (go_simp; try (rw [e6]))⟩) ?_
      simp only [AP]
      refine sas (.int .u64 (f6 : Int)) rfl rfl rfl ?_
      simp only [AP]
      refine wpSeq_nil ?_
      refine (by assumption : ∀ (a : Act) (w : World), _ → _) _ _ ?_
      go_upto_region 15 with fail
      rename_i aK
      refine wp_region_seq ?_
      refine smv (.int .i64 ((0 : Nat) : Int)) rfl rfl rfl ?_
      simp only [AP]
      refine svl (.int .i64 ((0 + 1 : Nat) : Int)) (.inl ⟨by rfl, fun w' _ => by (go_simp; try rfl)⟩) ?_
      simp only [AP]
      refine sas (.int .i64 ((0 + 1 : Nat) : Int)) rfl rfl rfl ?_
      simp only [AP]
      refine wpSeq_nil ?_
      go_wp2
      exact ⟨⟨0 + 1, by omega, by rw [H6.out], rfl, by trivial⟩, by simp only [intOf]; omega⟩
     ·
      have j0' : ¬ (j : Int) = 0 := by omega
      have EF := Lib.hid ((ES.out (by omega)).trans (by rw [hD2, hF2]))
      clear EO ES HA HY
      go_upto_region 17 with fail
      rename_i aK
      refine wp_region_seq ?_
      refine smv (.int .i64 (j : Int)) rfl rfl rfl ?_
      simp only [AP]
      refine svl (.bool false) (.inl ⟨by rfl, fun w' _ => by (go_simp; try omega)⟩) ?_
      simp only [AP]
      refine wpSeq_nil ?_
      refine (by assumption : ∀ (a : Act) (w : World), _ → _) _ _ ?_
      go_upto_region 15 with fail
      rename_i aK
      refine wp_region_seq ?_
      refine smv (.int .i64 (j : Int)) rfl rfl rfl ?_
      simp only [AP]
      refine svl (.int .i64 ((j + 1 : Nat) : Int)) (.inl ⟨by rfl, fun w' _ => by go_simp⟩) ?_
      simp only [AP]
      refine sas (.int .i64 ((j + 1 : Nat) : Int)) rfl rfl rfl ?_
      simp only [AP]
      refine wpSeq_nil ?_
      go_wp2
      exact ⟨⟨j + 1, by omega, by rw [EF.out], rfl, by trivial⟩, by simp only [intOf]; omega⟩
  ·
   have jl : (i : Int) < (k : Int) := by omega
   have d4 : D ≤ 8 := by
    rw [hD]
    exact Nat.pow_le_pow_right (show 0 < 2 by decide) (show i ≤ 3 by omega)
   have e4 : IntKind.u64.wrap ((D : Int) * 2) = ((D * 2 : Nat) : Int) := by rw [IntKind.wrap_u64]; omega
   have e5 : IntKind.u8.wrap ((i : Int) + 1) = ((i + 1 : Nat) : Int) := by rw [IntKind.wrap_u8]; omega
   have HDD := Lib.hid (show D * 2 = 2 ^ (i + 1) by rw [Nat.pow_succ, hD])
   clear hD BC
   go_upto_region 8 with fail
   rename_i aK
   refine wp_region_seq ?_
   refine smv (.int .u8 (i : Int)) rfl rfl rfl ?_
   simp only [AP]
   refine smv (.pointer (some ⟨B, 0, none⟩)) rfl rfl rfl ?_
   simp only [AP]
   refine svl (.pointer (some ⟨B, 0, none⟩)) (.inl ⟨by rfl, fun w' _ => by go_simp⟩) ?_
   simp only [AP]
   refine svl (.pointer (some ⟨B, 0, none⟩)) (.inl ⟨by rfl, fun w' _ => by go_simp⟩) ?_
   simp only [AP]
   refine wpSeq_yield (S := fun w' => w' = wr) (v := .slice (some ⟨gb, ob, none⟩) ln cb) (Or.inl ⟨by rfl, fun w' hw' => by (rw [hw']; go_simp)⟩) rfl ?_
   simp only [AP]
   refine svl (.pointer (some ⟨gb, ob, none⟩)) (.inl ⟨by rfl, fun w' _ => by (go_simp)⟩) ?_
   simp only [AP]
   refine wpSeq_yield (S := fun w' => w' = wr) (v := .int .u8 (x : Int)) (Or.inl ⟨by rfl, fun w' hw' => by (rw [hw']; go_simp)⟩) rfl ?_
   simp only [AP]
   refine svl (.int .u8 (k : Int)) (.inl ⟨by rfl, fun w' _ => by (go_simp; have hx := HK.out; try omega)⟩) ?_
   simp only [AP]
   refine svl (.bool true) (.inl ⟨by rfl, fun w' _ => by (go_simp; try omega)⟩) ?_
   simp only [AP]
   refine wpSeq_nil ?_
   refine (by assumption : ∀ (a : Act) (w : World), _ → _) _ _ ?_
   go_upto_region 10 with fail
   rename_i aK
   refine wp_region_seq ?_
   refine smv (.int .u64 (D : Int)) rfl rfl rfl ?_
   simp only [AP]
   refine svl (.int .u64 ((D * 2 : Nat) : Int)) (.inl ⟨by rfl, fun w' _ => by (go_simp)⟩) ?_
   simp only [AP]
   refine sas (.int .u64 ((D * 2 : Nat) : Int)) rfl rfl rfl ?_
   simp only [AP]
   refine wpSeq_nil ?_
   refine (by assumption : ∀ (a : Act) (w : World), _ → _) _ _ ?_
   go_upto_region 9 with fail
   rename_i aK
   refine wp_region_seq ?_
   refine smv (.int .u8 (i : Int)) rfl rfl rfl ?_
   simp only [AP]
   refine svl (.int .u8 ((i + 1 : Nat) : Int)) (.inl ⟨by rfl, fun w' _ => by (go_simp)⟩) ?_
   simp only [AP]
   refine sas (.int .u8 ((i + 1 : Nat) : Int)) rfl rfl rfl ?_
   simp only [AP]
   refine wpSeq_nil ?_
   go_wp2
   exact ⟨⟨i + 1, D * 2, by omega, HDD.out, rfl, rfl, by trivial⟩, by simp only [intOf]; omega⟩
set_option maxHeartbeats 8000000 in
set_option maxRecDepth 100000 in
theorem rnum_m (B0 B : Nat) (p : Option Addr) (l : List Nat) (c : Nat) (W : World) (h : RX B0 B W p l c) (bb : Bytes l) :
  Calls Tryz.prog 46 #[.pointer p] W fun e w' => e = .returned (.int .u64 ((numS l c).1 : Int)) ∧ RX B0 B w' p (numS l c).2.1 (numS l c).2.2 ∧ W.grownBy w' (some B) := by
 by_cases hc : c = 0
 ·
  subst hc
  cases l with
  | nil =>
   have h0 := Lib.hid h
   obtain ⟨rfl, c1, f1⟩ := h.cell
   obtain ⟨⟨pb, cb, _, K, S, ne⟩, lo, sm⟩ := h
   have cc0 : W.cell? ⟨B, 0, none⟩ = some (.slice pb 0 cb) := K.cell 0
   replace c1 : W.cell? ⟨B, 1, none⟩ = some (.int .i64 0) := c1
   rw [show numS [] 0 = (0, [], 3) from rfl]
   clear K S ne lo sm
   go_enter Tryz.func46, Tryz.ntmps46
   go_wp2
   go_ret
   exact ⟨rfl, h0.out.fault 3, gb_set rfl W 1 _⟩
  | cons x t =>
   rw [numS_took]
   exact rnum_some B0 B p x t W h bb
 ·
  rw [numS_fault l c hc]
  have h0 := Lib.hid h
  obtain ⟨rfl, c1, f1⟩ := h.cell
  have hc' : ¬ (c : Int) = 0 := by omega
  clear h
  go_enter Tryz.func46, Tryz.ntmps46
  go_wp2
  go_ret
  exact ⟨rfl, h0.out, World.grownBy.refl _ _⟩
end Go.Proofs.YtegbnadnodlalaaGreatDoor
namespace Go.Proofs.YtegbnadnodlalaaGreatDoor
open Go.RowKit
theorem numS_bytes {l : List Nat} (h : Bytes l) (c : Nat) : Bytes (numS l c).2.1 := by
 by_cases hc : c = 0
 ·
  subst hc
  cases l with
  | nil => exact h
  | cons x t =>
   rw [numS_took]
   exact (tookS_bytes h _ _).2
 ·
  rw [numS_fault l c hc]
  exact h
theorem gb_newcell {W w : World} {b : Option Nat} (h : W.grownBy w b) {g : Nat} (hg : W.heap.size ≤ g) (i : Nat) (v : Value) : W.grownBy (w.setCell ⟨g, i, none⟩ v) b :=
 ⟨h.os, h.tape, h.output, Nat.le_trans h.size (gb_set2 w g i v).size, fun k hk hne => (heap_setCell_other w _ k v (by dsimp only; omega)).trans (h.block k hk hne)⟩
set_option maxHeartbeats 8000000 in
set_option maxRecDepth 100000 in
theorem rparams_m (B0 B : Nat) (p : Option Addr) (l : List Nat) (c : Nat) (W : World) (h : RX B0 B W p l c) (bb : Bytes l) :
  Calls Tryz.prog 29 #[.pointer p] W fun e w' => e = .returned (.agg (parV (parS l c).1.1 (parS l c).1.2.1 (parS l c).1.2.2.1 (parS l c).1.2.2.2)) ∧ RX B0 B w' p (parS l c).2.1 (parS l c).2.2 ∧ W.grownBy w' (some B) := by
 obtain ⟨N1, N2, N3, N4, e1, e2, e3, e4, eP⟩ := parS_is l c
 have b1 := numS_bytes bb c
 rw [e1] at b1
 have b2 := numS_bytes b1 N1.2.2
 rw [e2] at b2
 have b3 := numS_bytes b2 N2.2.2
 rw [e3] at b3
 have F1 := Lib.hid (fun (w : World) (h : RX B0 B w p l c) => rnum_m B0 B p l c w h bb)
 have F2 := Lib.hid (fun (w : World) (h : RX B0 B w p N1.2.1 N1.2.2) => rnum_m B0 B p _ _ w h b1)
 have F3 := Lib.hid (fun (w : World) (h : RX B0 B w p N2.2.1 N2.2.2) => rnum_m B0 B p _ _ w h b2)
 have F4 := Lib.hid (fun (w : World) (h : RX B0 B w p N3.2.1 N3.2.2) => rnum_m B0 B p _ _ w h b3)
 rw [e1] at F1
 rw [e2] at F2
 rw [e3] at F3
 rw [e4] at F4
 rw [eP]
 clear e1 e2 e3 e4 eP b1 b2 b3 bb
 dsimp only
 have HB := Lib.hid (And.intro h.lt h.lo)
 have R0 := Lib.hid h
 clear h
 have pi := info_parV (CV := parV N1.1 N2.1 N3.1 N4.1) rfl
 go_enter Tryz.func29, Tryz.ntmps29
 go_upto_region 0 with fail
 rename_i aK
 refine wp_region_seq ?_
 refine wpSeq_wp rfl ?_
 unfold Oper.wp execOp
 go_simp
 refine wpSeq_nil ?_
 refine aK _ _ ?_
 clear aK
 generalize hW : World.alloc W _ = w1
 obtain ⟨Z, hZ, KR, b0⟩ : ∃ Z : Array Value, Z.size = 4 ∧ Blk w1 W.heap.size 28 Z ∧ Below W.heap.size W w1 := by
  rw [← hW]
  exact ⟨_, rfl, Blk.new _ _ _, (Below.refl _ _).alloc (Nat.le_refl _) _⟩
 clear hW
 go_upto_region 1 with fail
 rename_i aK
 refine wp_region_seq ?_
 refine wpSeq_wp rfl ?_
 unfold Oper.wp execOp
 go_simp
 generalize hW : World.alloc w1 _ = w2
 obtain ⟨KK, b3⟩ : Blk w2 w1.heap.size 28 (parV 0 0 0 0) ∧ Below w1.heap.size w1 w2 := by
  rw [← hW]
  exact ⟨Blk.new _ _ _, (Below.refl _ _).alloc (Nat.le_refl _) _⟩
 clear hW
 have NG := Lib.hid (show W.heap.size < w1.heap.size from KR.lt)
 replace KR := KR.below' b3
 replace b0 := b0.trans (b3.mono b0.size)
 clear b3
 obtain ⟨g3, hg3⟩ : ∃ g, w1.heap.size = g := ⟨_, rfl⟩
 rw [hg3] at KK NG ⊢
 clear hg3
 refine wpSeq_nil ?_
 refine (by assumption : ∀ (a : Act) (w : World), _ → _) _ _ ?_
 have RX0 := R0.out.below b0
 have TW := gb_below b0 (some B)
 clear R0 b0
 go_upto_region 2 with fail
 rename_i aK
 refine wp_region_seq ?_
 refine smv (.pointer p) rfl rfl rfl ?_
 simp only [AP]
 refine wpSeq_wp rfl ?_
 unfold Oper.wp execOp
 go_simp
 refine (F1.out w2 RX0).mono ?_
 rintro _ w3 ⟨rfl, RY0, GG⟩
 replace KK : Blk w3 g3 28 _ := (GG.block _ KK.lt (fun e => by have := Option.some.inj e; have := HB.out; have := NG.out; omega)).trans KK
 replace KR : Blk w3 W.heap.size 28 Z := (GG.block _ KR.lt (fun e => by have := Option.some.inj e; have := HB.out; omega)).trans KR
 replace TW := gb_tr TW GG
 clear F1 RX0 GG
 have q0 : w3.cell? ⟨g3, 0, none⟩ = some (.int .u64 0) := KK.cell 0
 have p0 := KK.frozen 0
 go_simp
 refine svl (.pointer (some ⟨g3, 0, none⟩)) (.inl ⟨by rfl, fun w' _ => by (go_simp)⟩) ?_
 simp only [AP]
 refine wpSeq_wp rfl ?_
 unfold Oper.wp execOp
 go_simp
 have RX1 := RY0.other (gb_set2 w3 g3 0 (.int .u64 ((N1.1 : Nat) : Int))) (by have := HB.out; have := NG.out; omega) (by have := HB.out; have := NG.out; omega)
 replace TW := gb_newcell TW (Nat.le_of_lt NG.out) 0 (.int .u64 ((N1.1 : Nat) : Int))
 replace KK := KK.set 0 (.int .u64 ((N1.1 : Nat) : Int))
 replace KK : Blk _ g3 28 (parV N1.1 0 0 0) := KK
 replace KR : Blk (w3.setCell ⟨g3, 0, none⟩ (.int .u64 ((N1.1 : Nat) : Int))) W.heap.size 28 Z := Blk.far (p := ⟨g3, 0, none⟩) KR (by have := NG.out; show W.heap.size ≠ g3; omega) _
 clear q0 p0 RY0
 generalize World.setCell w3 _ _ = w4 at *
 refine wpSeq_nil ?_
 refine (by assumption : ∀ (a : Act) (w : World), _ → _) _ _ ?_
 go_upto_region 3 with fail
 rename_i aK
 refine wp_region_seq ?_
 refine smv (.pointer p) rfl rfl rfl ?_
 simp only [AP]
 refine wpSeq_wp rfl ?_
 unfold Oper.wp execOp
 go_simp
 refine (F2.out w4 RX1).mono ?_
 rintro _ w5 ⟨rfl, RY1, GG⟩
 replace KK : Blk w5 g3 28 _ := (GG.block _ KK.lt (fun e => by have := Option.some.inj e; have := HB.out; have := NG.out; omega)).trans KK
 replace KR : Blk w5 W.heap.size 28 Z := (GG.block _ KR.lt (fun e => by have := Option.some.inj e; have := HB.out; omega)).trans KR
 replace TW := gb_tr TW GG
 clear F2 RX1 GG
 have q1 : w5.cell? ⟨g3, 1, none⟩ = some (.int .u64 0) := KK.cell 1
 have p1 := KK.frozen 1
 go_simp
 refine svl (.pointer (some ⟨g3, 1, none⟩)) (.inl ⟨by rfl, fun w' _ => by (go_simp)⟩) ?_
 simp only [AP]
 refine wpSeq_wp rfl ?_
 unfold Oper.wp execOp
 go_simp
 have RX2 := RY1.other (gb_set2 w5 g3 1 (.int .u64 ((N2.1 : Nat) : Int))) (by have := HB.out; have := NG.out; omega) (by have := HB.out; have := NG.out; omega)
 replace TW := gb_newcell TW (Nat.le_of_lt NG.out) 1 (.int .u64 ((N2.1 : Nat) : Int))
 replace KK := KK.set 1 (.int .u64 ((N2.1 : Nat) : Int))
 replace KK : Blk _ g3 28 (parV N1.1 N2.1 0 0) := KK
 replace KR : Blk (w5.setCell ⟨g3, 1, none⟩ (.int .u64 ((N2.1 : Nat) : Int))) W.heap.size 28 Z := Blk.far (p := ⟨g3, 1, none⟩) KR (by have := NG.out; show W.heap.size ≠ g3; omega) _
 clear q1 p1 RY1
 generalize World.setCell w5 _ _ = w6 at *
 refine wpSeq_nil ?_
 refine (by assumption : ∀ (a : Act) (w : World), _ → _) _ _ ?_
 go_upto_region 4 with fail
 rename_i aK
 refine wp_region_seq ?_
 refine smv (.pointer p) rfl rfl rfl ?_
 simp only [AP]
 refine wpSeq_wp rfl ?_
 unfold Oper.wp execOp
 go_simp
 refine (F3.out w6 RX2).mono ?_
 rintro _ w7 ⟨rfl, RY2, GG⟩
 replace KK : Blk w7 g3 28 _ := (GG.block _ KK.lt (fun e => by have := Option.some.inj e; have := HB.out; have := NG.out; omega)).trans KK
 replace KR : Blk w7 W.heap.size 28 Z := (GG.block _ KR.lt (fun e => by have := Option.some.inj e; have := HB.out; omega)).trans KR
 replace TW := gb_tr TW GG
 clear F3 RX2 GG
 have q2 : w7.cell? ⟨g3, 2, none⟩ = some (.int .u64 0) := KK.cell 2
 have p2 := KK.frozen 2
 go_simp
 refine svl (.pointer (some ⟨g3, 2, none⟩)) (.inl ⟨by rfl, fun w' _ => by (go_simp)⟩) ?_
 simp only [AP]
 refine wpSeq_wp rfl ?_
 unfold Oper.wp execOp
 go_simp
 have RX3 := RY2.other (gb_set2 w7 g3 2 (.int .u64 ((N3.1 : Nat) : Int))) (by have := HB.out; have := NG.out; omega) (by have := HB.out; have := NG.out; omega)
 replace TW := gb_newcell TW (Nat.le_of_lt NG.out) 2 (.int .u64 ((N3.1 : Nat) : Int))
 replace KK := KK.set 2 (.int .u64 ((N3.1 : Nat) : Int))
 replace KK : Blk _ g3 28 (parV N1.1 N2.1 N3.1 0) := KK
 replace KR : Blk (w7.setCell ⟨g3, 2, none⟩ (.int .u64 ((N3.1 : Nat) : Int))) W.heap.size 28 Z := Blk.far (p := ⟨g3, 2, none⟩) KR (by have := NG.out; show W.heap.size ≠ g3; omega) _
 clear q2 p2 RY2
 generalize World.setCell w7 _ _ = w8 at *
 refine wpSeq_nil ?_
 refine (by assumption : ∀ (a : Act) (w : World), _ → _) _ _ ?_
 go_upto_region 5 with fail
 rename_i aK
 refine wp_region_seq ?_
 refine smv (.pointer p) rfl rfl rfl ?_
 simp only [AP]
 refine wpSeq_wp rfl ?_
 unfold Oper.wp execOp
 go_simp
 refine (F4.out w8 RX3).mono ?_
 rintro _ w9 ⟨rfl, RY3, GG⟩
 replace KK : Blk w9 g3 28 _ := (GG.block _ KK.lt (fun e => by have := Option.some.inj e; have := HB.out; have := NG.out; omega)).trans KK
 replace KR : Blk w9 W.heap.size 28 Z := (GG.block _ KR.lt (fun e => by have := Option.some.inj e; have := HB.out; omega)).trans KR
 replace TW := gb_tr TW GG
 clear F4 RX3 GG
 have q3 : w9.cell? ⟨g3, 3, none⟩ = some (.int .u64 0) := KK.cell 3
 have p3 := KK.frozen 3
 go_simp
 refine svl (.pointer (some ⟨g3, 3, none⟩)) (.inl ⟨by rfl, fun w' _ => by (go_simp)⟩) ?_
 simp only [AP]
 refine wpSeq_wp rfl ?_
 unfold Oper.wp execOp
 go_simp
 have RX4 := RY3.other (gb_set2 w9 g3 3 (.int .u64 ((N4.1 : Nat) : Int))) (by have := HB.out; have := NG.out; omega) (by have := HB.out; have := NG.out; omega)
 replace TW := gb_newcell TW (Nat.le_of_lt NG.out) 3 (.int .u64 ((N4.1 : Nat) : Int))
 replace KK := KK.set 3 (.int .u64 ((N4.1 : Nat) : Int))
 replace KK : Blk _ g3 28 (parV N1.1 N2.1 N3.1 N4.1) := KK
 replace KR : Blk (w9.setCell ⟨g3, 3, none⟩ (.int .u64 ((N4.1 : Nat) : Int))) W.heap.size 28 Z := Blk.far (p := ⟨g3, 3, none⟩) KR (by have := NG.out; show W.heap.size ≠ g3; omega) _
 clear q3 p3 RY3
 generalize World.setCell w9 _ _ = w10 at *
 refine wpSeq_nil ?_
 refine (by assumption : ∀ (a : Act) (w : World), _ → _) _ _ ?_
 go_upto_region 6 with fail
 rename_i aK
 refine wp_region_seq ?_
 refine wpSeq_yield (S := fun w' => w' = w10) (show YieldsIf _ _ _ _ (.agg (parV N1.1 N2.1 N3.1 N4.1)) _ from yieldsIf_row_wanted (S := fun w' => w' = w10) rfl 28 _ rfl g3 rfl 28 _ _ (fun _ h => h ▸ KK) Tryz.underlying28 rfl pi) rfl ?_
 simp only [AP]
 refine wpSeq_store_row rfl 28 _ _ rfl W.heap.size (parV N1.1 N2.1 N3.1 N4.1) rfl rfl _ _ KR pi (by rw [hZ]; rfl) (parV_one _ _ _ _) ?_
 simp only [Act.put]
 refine wpSeq_nil ?_
 refine (by assumption : ∀ (a : Act) (w : World), _ → _) _ _ ?_
 have RM5 := RX4.other (grown_one w10 W.heap.size (parV N1.1 N2.1 N3.1 N4.1)) (by have := HB.out; omega) (by have := HB.out; omega)
 have G5 : W.grownBy (w10.setRow W.heap.size (parV N1.1 N2.1 N3.1 N4.1)) (some B) := ⟨TW.os, TW.tape, TW.output, by rw [setRow_size]; exact TW.size, fun k hk hne => (setRow_other w10 _ k _ (by omega)).trans (TW.block k hk hne)⟩
 go_wp2
 exact bodyPost_ret (results_cell_row rfl _ _ _ 28 _ (0, 0) _ rfl (Blk.row KR _) Tryz.underlying28 rfl pi) rfl ⟨rfl, RM5, G5⟩
end Go.Proofs.YtegbnadnodlalaaGreatDoor
