/- The law MacLong. -/
import Derived.Test.YtjkocockbglenaaDoorMi
import Derived.Laws.BytesArg
namespace Go.Proofs.YtjkocockbglenaaDoor
open Go.RowKit

/-- What stands throughout. -/
structure LgS (w : World) (kv bv : Value) (K L : List Nat) (wr : World) : Prop where
  b : Below w.heap.size w wr
  key : SB wr kv K
  bs : SB wr bv L
  tab : Tab wr cuT
  sq : Sq wr sqT
theorem LgS.below {w : World} {kv bv : Value} {K L : List Nat} {wr w2 : World} (h : LgS w kv bv K L wr) (hb : Below wr.heap.size wr w2) : LgS w kv bv K L w2 :=
  ⟨h.b.trans (hb.mono h.b.size), h.key.below hb, h.bs.below hb, h.tab.below hb, h.sq.below hb⟩
theorem LgS.drew {w : World} {kv bv : Value} {K L : List Nat} {wr : World} (h : LgS w kv bv K L wr) : LgS w kv bv K L wr.drew := h.below (below_drew (Below.refl _ _))
theorem wp_assign_run {P : Program} {o : Oper} {a : Act} {w : World} {K : Act → World → Prop} {Q : Exit → Act → World → Prop} (x : Operand)
    (ho : o.op = .assign x) (v : Value) (hx : a.eval x = v) (h : K (a.put o.dst v) w) : o.wp P a w K Q := by
  unfold Oper.wp execOp
  simp only [ho, Sem.run_pure, hx]
  exact h
/-- The same, and both keys that are made. -/
structure LgT (w : World) (kv bv : Value) (K L : List Nat) (v3 : Value) (R : List Nat) (g8 : Nat) (wr : World) : Prop where
  s : LgS w kv bv K L wr
  r : SB wr v3 R
  k : BA wr g8 0 (K ++ [7, 7])
theorem LgT.below {w : World} {kv bv : Value} {K L : List Nat} {v3 : Value} {R : List Nat} {g8 : Nat} {wr w2 : World} (h : LgT w kv bv K L v3 R g8 wr) (hb : Below wr.heap.size wr w2) : LgT w kv bv K L v3 R g8 w2 :=
  ⟨h.s.below hb, h.r.below hb, h.k.below hb⟩
theorem keyPad_noughts (cu sq : Nat → Nat) (K : List Nat) (k : Nat) (h : K.length + k ≤ 64) : keyPad cu sq (K ++ List.replicate k 0) = keyPad cu sq K := by
  unfold keyPad
  simp only [List.length_append, List.length_replicate]
  rw [if_neg (by omega), if_neg (by omega), List.length_append, List.length_replicate, List.append_assoc, List.replicate_append_replicate]
  congr 2
  omega
theorem seven {w : World} {g8 : Nat} {K : List Nat} (h : BA w g8 0 (K ++ [7, 7])) : w.cell? ⟨g8, K.length, none⟩ = some (.int .u8 7) := by
  have := h.cell K.length (by simp)
  rw [Nat.zero_add] at this
  simpa using this
set_option maxHeartbeats 4000000 in
set_option maxRecDepth 100000 in
theorem long_any (w : World) (K L : List Nat) (pk pb : Option Addr) (ck cb : Nat) (n m : Nat) (T : Tab w cuT) (S : Sq w sqT) (hk : SB w (.slice pk K.length ck) K) (hb : SB w (.slice pb L.length cb) L) (bK : Bytes K) (bL : Bytes L) (hn : n < 256) (hm : m < 256) :
    Calls Tryd.prog 7 #[.slice pk K.length ck, .slice pb L.length cb, .int .u8 (n : Int), .int .u8 (m : Int)] w fun e w' => e = .returned (.bool true) ∧ Below w.heap.size w w' := by
  have CA := Lib.hid (awake_any w T S)
  go_enter Tryd.func7, Tryd.ntmps7
  go_wp2_with fail
  refine CA.out.mono ?_
  rintro _ w1 ⟨rfl, b1⟩
  have F : LgS w (.slice pk K.length ck) (.slice pb L.length cb) K L w1 := ⟨b1, hk.below b1, hb.below b1, T.below b1, S.below b1⟩
  clear CA b1 hk hb T S
  go_upto_region 3 with fail
  by_cases h60 : (60 : Int) < (K.length : Int)
  · have FB := F.b
    go_wp2
    go_ret
    exact ⟨rfl, FB⟩
  by_cases h500 : (500 : Int) < (L.length : Int)
  · have FB := F.b
    go_wp2
    go_ret
    exact ⟨rfl, FB⟩
  obtain ⟨k, hk⟩ : ∃ k, k = n % (65 - K.length) := ⟨_, rfl⟩
  have lk : K.length + k ≤ 64 := by
    have := Nat.mod_lt n (show 0 < 65 - K.length by omega)
    omega
  have i1 : IntKind.i64.wrap (n : Int) = (n : Int) := by rw [IntKind.wrap_i64]; omega
  have i2 : IntKind.i64.wrap (65 - (K.length : Int)) = 65 - (K.length : Int) := by rw [IntKind.wrap_i64]; omega
  have i3 : ¬ (65 - (K.length : Int) = 0) := by omega
  have i4 : (n : Int).tmod (65 - (K.length : Int)) = (k : Int) := by
    rw [show (65 - (K.length : Int)) = ((65 - K.length : Nat) : Int) by omega, hk]
    rfl
  have HK := Lib.hid hk
  clear hk
  go_upto_region 5 with fail
  have hS := F.drew
  clear F
  refine wp_region_Z (S := LgS w (.slice pk K.length ck) (.slice pb L.length cb) K L) 10 (by kernel_rfl) ?_
  generalize World.drew w1 = V at *
  refine wpAnyZ_takeL 1 rfl (by kernel_rfl) (by kernel_rfl) (by kernel_rfl) (by kernel_rfl) (by kernel_rfl) (fun _ _ _ h => h) (yieldsIf_move rfl _ rfl _ rfl) hS ?_
  simp only [Act.put, List.setIfInBounds_toArray, List.set_cons_zero, List.set_cons_succ]
  refine wpAnyZ_takeL 3 rfl (by kernel_rfl) (by kernel_rfl) (by kernel_rfl) (by kernel_rfl) (by kernel_rfl) (fun _ _ _ h => h) (yieldsIf_move rfl _ rfl _ rfl) hS ?_
  simp only [Act.put, List.setIfInBounds_toArray, List.set_cons_zero, List.set_cons_succ]
  refine wpAnyZ_takeL 4 (v := (.int .i64 (n : Int))) rfl (by kernel_rfl) (by kernel_rfl) (by kernel_rfl) (by kernel_rfl) (by kernel_rfl) (fun _ _ _ h => h) (Or.inl ⟨by rfl, ?_⟩) hS ?_
  · intro w' _
    go_simp
  simp only [Act.put, List.setIfInBounds_toArray, List.set_cons_zero, List.set_cons_succ]
  refine wpAnyZ_takeL 5 rfl (by kernel_rfl) (by kernel_rfl) (by kernel_rfl) (by kernel_rfl) (by kernel_rfl) (fun _ _ _ h => h) (yieldsIf_move rfl _ rfl _ rfl) hS ?_
  simp only [Act.put, List.setIfInBounds_toArray, List.set_cons_zero, List.set_cons_succ]
  refine wpAnyZ_takeL 6 (v := (.int .i64 (K.length : Int))) rfl (by kernel_rfl) (by kernel_rfl) (by kernel_rfl) (by kernel_rfl) (by kernel_rfl) (fun _ _ _ h => h) (Or.inl ⟨by rfl, ?_⟩) hS ?_
  · intro w' _
    go_simp
  simp only [Act.put, List.setIfInBounds_toArray, List.set_cons_zero, List.set_cons_succ]
  refine wpAnyZ_takeL 7 (v := (.int .i64 (65 - (K.length : Int)))) rfl (by kernel_rfl) (by kernel_rfl) (by kernel_rfl) (by kernel_rfl) (by kernel_rfl) (fun _ _ _ h => h) (Or.inl ⟨by rfl, ?_⟩) hS ?_
  · intro w' _
    go_simp
  simp only [Act.put, List.setIfInBounds_toArray, List.set_cons_zero, List.set_cons_succ]
  refine wpAnyZ_takeL 8 (v := (.int .i64 (k : Int))) rfl (by kernel_rfl) (by kernel_rfl) (by kernel_rfl) (by kernel_rfl) (by kernel_rfl) (fun _ _ _ h => h) (Or.inl ⟨by rfl, ?_⟩) hS ?_
  · intro w' _
    go_simp
  simp only [Act.put, List.setIfInBounds_toArray, List.set_cons_zero, List.set_cons_succ]
  have O0 := ow_none V.heap.size V (Nat.le_refl _)
  have B0 : Below V.heap.size V _ := (Below.refl _ _).alloc (Nat.le_refl _) (.cells #[] 5)
  obtain ⟨v2, V2, r2, O2, g2, o2⟩ := append_sb V.heap.size _ 22 _ _ [] K O0 (hS.key.below B0) (by simp; omega) B0.size
  have B2 : Below V.heap.size V V2 := below_grown' B0 g2 (fun j hj => (O0.lt j hj).1) B0.size
  have s2 : v2.ownBlock.isSome = true := by rcases o2 with h | h <;> rw [h] <;> rfl
  rw [List.nil_append] at O2
  obtain ⟨v3, V3, r3, O3, B3⟩ := append_noughts V.heap.size V V2 22 v2 K O2 s2 k (by omega) (by omega) B2.size B2
  refine wpAnyZ_wp 0 rfl (by kernel_rfl) rfl ?_
  refine wp_build_run _ rfl _ _ (run_buildSlice_none _) ⟨fun _ => hS.below B0, ?_⟩
  simp only [Act.put, List.setIfInBounds_toArray, List.set_cons_zero, List.set_cons_succ]
  refine wpAnyZ_wp 2 rfl (by kernel_rfl) rfl ?_
  refine wp_append_run _ _ _ _ rfl _ _ rfl rfl _ _ r2 ⟨fun _ => hS.below B2, ?_⟩
  simp only [Act.put, List.setIfInBounds_toArray, List.set_cons_zero, List.set_cons_succ]
  refine wpAnyZ_wp 9 rfl (by kernel_rfl) rfl ?_
  refine wp_append_run _ _ _ _ rfl _ _ rfl rfl _ _ r3 ⟨fun _ => hS.below B3, ?_⟩
  simp only [Act.put, List.setIfInBounds_toArray, List.set_cons_zero, List.set_cons_succ]
  have F := hS.below B3
  have Q3 := O3.sb
  clear O0 O2 O3 r2 r3 g2 o2 s2 B0 B2 B3 i1 i2 i3 i4 hS
  refine wpAnyZ_one (i := 10) (by kernel_rfl) ?_
  unfold wpOp
  go_simp
  left
  refine ⟨by kernel_rfl, ?_⟩
  obtain ⟨kk, hkk⟩ : ∃ kk, kk = min m L.length := ⟨_, rfl⟩
  have e1 : (if L.length < m then (L.length : Int) else (m : Int)) = (kk : Int) := by rw [hkk]; split <;> omega
  have lkk : kk ≤ L.length := by omega
  clear hkk
  go_upto_region 7 with fail
  have O0 := ow_none V3.heap.size V3 (Nat.le_refl _)
  have B0 : Below V3.heap.size V3 _ := (Below.refl _ _).alloc (Nat.le_refl _) (.cells #[] 5)
  obtain ⟨v5, V5, r5, O5, g5, o5⟩ := append_sb V3.heap.size _ 22 _ _ [] K O0 (F.key.below B0) (by simp; omega) B0.size
  have B5 : Below V3.heap.size V3 V5 := below_grown' B0 g5 (fun j hj => (O0.lt j hj).1) B0.size
  rw [List.nil_append] at O5
  have B6 : Below V5.heap.size V5 _ := (Below.refl _ _).alloc (Nat.le_refl _) (.cells (Iv .u8 (NI [7, 7])) 5)
  have A6 : BA _ V5.heap.size 0 [7, 7] := BA.of_blk (Blk.new V5 5 (Iv .u8 (NI [7, 7])))
  have B7 := B5.trans (B6.mono B5.size)
  obtain ⟨v7, V7, r7, O7, g7, o7⟩ := append_ba V3.heap.size _ 22 _ K [7, 7] (O5.below B6) V5.heap.size 0 2 A6 (by simp; omega) B7.size
  have B8 : Below V3.heap.size V3 V7 := below_grown' B7 g7 (fun j hj => ((O5.below B6).lt j hj).1) B7.size
  rw [show Iv .u8 (NI [7, 7]) = #[.int .u8 7, .int .u8 7] from rfl] at r7
  replace F := F.below B8
  replace Q3 := Q3.below B8
  rcases O7.row with ⟨_, h0⟩ | ⟨g8, c8, rfl, _, hc8, _, A8, _⟩
  · simp at h0
  have l8 : (K ++ [7, 7]).length = K.length + 2 := by simp
  rw [l8] at hc8 r7
  clear O7 g7 o7 B8 B7 A6 B6 O5 g5 o5 B5 B0 O0
  have j1 : (0 : Int) ≤ (K.length : Int) := by omega
  have j2 : (K.length : Int) ≤ (c8 : Int) := by omega
  go_wp2_with (first | (refine wpList_build_run rfl _ rfl _ _ (run_buildSlice_none _) ?_) | (refine wpList_append_run rfl _ _ _ _ rfl _ _ rfl rfl _ _ r5 ?_) | (refine wpList_append_run rfl _ _ _ _ rfl _ _ rfl rfl _ _ r7 ?_))
  go_upto_region 8 with fail
  rename_i aK
  have bs0 := F.bs
  obtain ⟨_, lcb⟩ := bs0.len
  replace F := F.drew
  replace Q3 := Q3.drew
  replace A8 := A8.drew
  have hS : LgT w (.slice pk K.length ck) (.slice pb L.length cb) K L v3 (K ++ List.replicate k 0) g8 (World.drew V7) := ⟨F, Q3, A8⟩
  clear F Q3 A8 bs0 r5 r7 e1
  have q1 : (0 : Int) ≤ (kk : Int) := by omega
  have q2 : (kk : Int) ≤ (L.length : Int) := by omega
  have q3 : (L.length : Int) ≤ (cb : Int) := by omega
  have q4 : (kk : Int) ≤ (cb : Int) := by omega
  have q5 : (K.length : Int) + 1 ≤ (c8 : Int) := by omega
  have q6 : (0 : Int) ≤ (K.length : Int) + 1 := by omega
  have q7 : IntKind.i64.wrap ((K.length : Int) + 1) = (K.length : Int) + 1 := by rw [IntKind.wrap_i64]; omega
  have q8 : ¬ ((K.length : Int) + 1 ≤ (K.length : Int)) := by omega
  have bKr : Bytes (K ++ List.replicate k 0) := bK.append (Bytes.replicate k (by decide))
  obtain ⟨O, hO⟩ : ∃ O, O = hmac cuT sqT K L := ⟨_, rfl⟩
  have lO : (NI O).length = 32 := by rw [NI_length, hO, hmac_length]
  have e47 : hmac cuT sqT (K ++ List.replicate k 0) [L].flatten = O := by
    rw [hO, show [L].flatten = L by simp]
    unfold hmac
    rw [keyPad_noughts _ _ _ _ lk]
  have e56 : hmac cuT sqT K [L.take kk, L.drop kk].flatten = O := by
    rw [hO, show [L.take kk, L.drop kk].flatten = L by simp]
  have e8 : (K ++ [7, 7]).take K.length = K := by simp
  clear hO
  refine wp_region_Z (S := LgT w (.slice pk K.length ck) (.slice pb L.length cb) K L v3 (K ++ List.replicate k 0) g8) 33 (by kernel_rfl) ?_
  generalize World.drew V7 = U at *
  refine wpAnyZ_takeL 0 rfl (by kernel_rfl) (by kernel_rfl) (by kernel_rfl) (by kernel_rfl) (by kernel_rfl) (fun _ _ _ h => h) (yieldsIf_move rfl _ rfl _ rfl) hS ?_
  simp only [Act.put, List.setIfInBounds_toArray, List.set_cons_zero, List.set_cons_succ]
  refine wpAnyZ_takeL 1 rfl (by kernel_rfl) (by kernel_rfl) (by kernel_rfl) (by kernel_rfl) (by kernel_rfl) (fun _ _ _ h => h) (yieldsIf_move rfl _ rfl _ rfl) hS ?_
  simp only [Act.put, List.setIfInBounds_toArray, List.set_cons_zero, List.set_cons_succ]
  refine wpAnyZ_takeL 4 rfl (by kernel_rfl) (by kernel_rfl) (by kernel_rfl) (by kernel_rfl) (by kernel_rfl) (fun _ _ _ h => h) (yieldsIf_move rfl _ rfl _ rfl) hS ?_
  simp only [Act.put, List.setIfInBounds_toArray, List.set_cons_zero, List.set_cons_succ]
  refine wpAnyZ_takeL 5 rfl (by kernel_rfl) (by kernel_rfl) (by kernel_rfl) (by kernel_rfl) (by kernel_rfl) (fun _ _ _ h => h) (yieldsIf_move rfl _ rfl _ rfl) hS ?_
  simp only [Act.put, List.setIfInBounds_toArray, List.set_cons_zero, List.set_cons_succ]
  refine wpAnyZ_takeL 6 rfl (by kernel_rfl) (by kernel_rfl) (by kernel_rfl) (by kernel_rfl) (by kernel_rfl) (fun _ _ _ h => h) (yieldsIf_move rfl _ rfl _ rfl) hS ?_
  simp only [Act.put, List.setIfInBounds_toArray, List.set_cons_zero, List.set_cons_succ]
  refine wpAnyZ_takeL 8 rfl (by kernel_rfl) (by kernel_rfl) (by kernel_rfl) (by kernel_rfl) (by kernel_rfl) (fun _ _ _ h => h) (yieldsIf_move rfl _ rfl _ rfl) hS ?_
  simp only [Act.put, List.setIfInBounds_toArray, List.set_cons_zero, List.set_cons_succ]
  refine wpAnyZ_takeL 9 rfl (by kernel_rfl) (by kernel_rfl) (by kernel_rfl) (by kernel_rfl) (by kernel_rfl) (fun _ _ _ h => h) (yieldsIf_move rfl _ rfl _ rfl) hS ?_
  simp only [Act.put, List.setIfInBounds_toArray, List.set_cons_zero, List.set_cons_succ]
  refine wpAnyZ_takeL 7 rfl (by kernel_rfl) (by kernel_rfl) (by kernel_rfl) (by kernel_rfl) (by kernel_rfl) (fun _ _ _ h => h) (yieldsIf_head rfl _ _ rfl pb L.length cb kk rfl rfl (by omega)) hS ?_
  simp only [Act.put, List.setIfInBounds_toArray, List.set_cons_zero, List.set_cons_succ]
  refine wpAnyZ_takeL 10 rfl (by kernel_rfl) (by kernel_rfl) (by kernel_rfl) (by kernel_rfl) (by kernel_rfl) (fun _ _ _ h => h) (yieldsIf_tail rfl _ _ rfl pb L.length cb kk rfl rfl lkk lcb) hS ?_
  simp only [Act.put, List.setIfInBounds_toArray, List.set_cons_zero, List.set_cons_succ]
  refine wpAnyZ_two (i := 2) (j := 11) (by kernel_rfl) ?_ ?_
  · unfold wpOp
    go_simp
    left
    have b47 := (Below.refl U.heap.size U).alloc (Nat.le_refl _) (.cells #[.slice pb L.length cb] 22)
    have P47 := sp_one 22 hS.s.bs
    replace hS := LgT.below hS b47
    refine ⟨hS, ?_⟩
    generalize World.alloc U _ = U1 at *
    clear b47
    generalize U.heap.size = g47 at *
    refine wpAnyZ_two (i := 3) (j := 11) (by kernel_rfl) ?_ ?_
    · unfold wpOp
      go_simp
      left
      refine (sum_any cuT sqT U1 v3 _ _ _ hS.s.tab hS.s.sq hS.r P47 bKr (fun x hx => by rw [List.mem_singleton.1 hx]; exact bL) (by simp) (by simp) (by simp; omega) (by simp; omega)).mono ?_
      rintro _ U2 ⟨rfl, b⟩
      rw [e47]
      replace hS := LgT.below hS b
      replace P47 := SP.below P47 b
      refine ⟨hS, ?_⟩
      clear b
      refine wpAnyZ_one (i := 11) (by kernel_rfl) ?_
      unfold wpOp
      go_simp
      left
      have b56 := (Below.refl U2.heap.size U2).alloc (Nat.le_refl _) (.cells #[.slice pb kk cb, .slice (tailP pb cb kk) (L.length - kk) (cb - kk)] 22)
      have P56 := sp_two 22 (hS.s.bs.head kk lkk) (hS.s.bs.tail kk lkk)
      replace hS := LgT.below hS b56
      replace P47 := SP.below P47 b56
      refine ⟨hS, ?_⟩
      generalize World.alloc U2 _ = U3 at *
      clear b56
      generalize U2.heap.size = g56 at *
      refine wpAnyZ_one (i := 12) (by kernel_rfl) ?_
      unfold wpOp
      go_simp
      left
      refine (sum_any cuT sqT U3 _ _ K _ hS.s.tab hS.s.sq (SB.of_ba' (c := c8) (n := K.length) (l := K) (by have := hS.k.take K.length; rw [e8] at this; exact this) rfl (by omega)) P56 bK (fun x hx => by
        simp only [List.mem_cons, List.not_mem_nil, or_false] at hx
        rcases hx with rfl | rfl
        · exact bL.take _
        · exact bL.drop _) (by simp) (by simp) (by omega) (by simp; omega)).mono ?_
      rintro _ U4 ⟨rfl, b⟩
      rw [e56]
      replace hS := LgT.below hS b
      refine ⟨hS, ?_⟩
      clear b P47 P56
      refine wpAnyZ_takeL 13 rfl (by kernel_rfl) (by kernel_rfl) (by kernel_rfl) (by kernel_rfl) (by kernel_rfl) (fun _ _ _ h => h) (yieldsIf_eql rfl 25 _ _ _ rfl _ _ rfl rfl (by kernel_rfl) true (fun W => by rw [eql_keys _ _ lO lO]; simp)) hS ?_
      simp only [Act.put, List.setIfInBounds_toArray, List.set_cons_zero, List.set_cons_succ]
      refine wpAnyZ_takeL 14 rfl (by kernel_rfl) (by kernel_rfl) (by kernel_rfl) (by kernel_rfl) (by kernel_rfl) (fun _ _ _ h => h) (yieldsIf_move rfl _ rfl _ rfl) hS ?_
      simp only [Act.put, List.setIfInBounds_toArray, List.set_cons_zero, List.set_cons_succ]
      refine wpAnyZ_takeL 15 rfl (by kernel_rfl) (by kernel_rfl) (by kernel_rfl) (by kernel_rfl) (by kernel_rfl) (fun _ _ _ h => h) (yieldsIf_move rfl _ rfl _ rfl) hS ?_
      simp only [Act.put, List.setIfInBounds_toArray, List.set_cons_zero, List.set_cons_succ]
      refine wpAnyZ_takeL 16 rfl (by kernel_rfl) (by kernel_rfl) (by kernel_rfl) (by kernel_rfl) (by kernel_rfl) (fun _ _ _ h => h) (yieldsIf_conv rfl _ rfl (.slice (some ⟨g8, 0, none⟩) K.length c8) rfl K (fun _ h => SB.of_ba' (by have := h.k.take K.length; rw [e8] at this; exact this) rfl (by omega))) hS ?_
      simp only [Act.put, List.setIfInBounds_toArray, List.set_cons_zero, List.set_cons_succ]
      refine wpAnyZ_takeL 17 rfl (by kernel_rfl) (by kernel_rfl) (by kernel_rfl) (by kernel_rfl) (by kernel_rfl) (fun _ _ _ h => h) (yieldsIf_move rfl _ rfl _ rfl) hS ?_
      simp only [Act.put, List.setIfInBounds_toArray, List.set_cons_zero, List.set_cons_succ]
      refine wpAnyZ_takeL 18 rfl (by kernel_rfl) (by kernel_rfl) (by kernel_rfl) (by kernel_rfl) (by kernel_rfl) (fun _ _ _ h => h) (yieldsIf_conv rfl _ rfl (.slice pk K.length ck) rfl K (fun _ h => h.s.key)) hS ?_
      simp only [Act.put, List.setIfInBounds_toArray, List.set_cons_zero, List.set_cons_succ]
      refine wpAnyZ_takeL 19 (v := (.bool true)) rfl (by kernel_rfl) (by kernel_rfl) (by kernel_rfl) (by kernel_rfl) (by kernel_rfl) (fun _ _ _ h => h) (Or.inl ⟨by rfl, ?_⟩) hS ?_
      · intro w' _
        go_simp
      simp only [Act.put, List.setIfInBounds_toArray, List.set_cons_zero, List.set_cons_succ]
      refine wpAnyZ_takeL 20 rfl (by kernel_rfl) (by kernel_rfl) (by kernel_rfl) (by kernel_rfl) (by kernel_rfl) (fun _ _ _ h => h) (yieldsIf_pick rfl _ _ _ rfl true rfl _ rfl) hS ?_
      simp only [Act.put, List.setIfInBounds_toArray, List.set_cons_zero, List.set_cons_succ]
      refine wpAnyZ_takeL 21 rfl (by kernel_rfl) (by kernel_rfl) (by kernel_rfl) (by kernel_rfl) (by kernel_rfl) (fun _ _ _ h => h) (yieldsIf_move rfl _ rfl _ rfl) hS ?_
      simp only [Act.put, List.setIfInBounds_toArray, List.set_cons_zero, List.set_cons_succ]
      refine wpAnyZ_takeL 22 rfl (by kernel_rfl) (by kernel_rfl) (by kernel_rfl) (by kernel_rfl) (by kernel_rfl) (fun _ _ _ h => h) (yieldsIf_move rfl _ rfl _ rfl) hS ?_
      simp only [Act.put, List.setIfInBounds_toArray, List.set_cons_zero, List.set_cons_succ]
      refine wpAnyZ_takeL 23 rfl (by kernel_rfl) (by kernel_rfl) (by kernel_rfl) (by kernel_rfl) (by kernel_rfl) (fun _ _ _ h => h) (yieldsIf_move rfl _ rfl _ rfl) hS ?_
      simp only [Act.put, List.setIfInBounds_toArray, List.set_cons_zero, List.set_cons_succ]
      refine wpAnyZ_takeL 24 (v := (.int .i64 (K.length : Int))) rfl (by kernel_rfl) (by kernel_rfl) (by kernel_rfl) (by kernel_rfl) (by kernel_rfl) (fun _ _ _ h => h) (Or.inl ⟨by rfl, ?_⟩) hS ?_
      · intro w' _
        go_simp
      simp only [Act.put, List.setIfInBounds_toArray, List.set_cons_zero, List.set_cons_succ]
      refine wpAnyZ_takeL 25 (v := (.int .i64 ((K.length : Int) + 1))) rfl (by kernel_rfl) (by kernel_rfl) (by kernel_rfl) (by kernel_rfl) (by kernel_rfl) (fun _ _ _ h => h) (Or.inl ⟨by rfl, ?_⟩) hS ?_
      · intro w' _
        go_simp
      simp only [Act.put, List.setIfInBounds_toArray, List.set_cons_zero, List.set_cons_succ]
      refine wpAnyZ_takeL 26 (v := (.slice (some ⟨g8, 0, none⟩) (K.length + 1) c8)) rfl (by kernel_rfl) (by kernel_rfl) (by kernel_rfl) (by kernel_rfl) (by kernel_rfl) (fun _ _ _ h => h) (Or.inl ⟨by rfl, ?_⟩) hS ?_
      · intro w' _
        go_simp
      simp only [Act.put, List.setIfInBounds_toArray, List.set_cons_zero, List.set_cons_succ]
      refine wpAnyZ_takeL 27 rfl (by kernel_rfl) (by kernel_rfl) (by kernel_rfl) (by kernel_rfl) (by kernel_rfl) (fun _ _ _ h => h) (yieldsIf_move rfl _ rfl _ rfl) hS ?_
      simp only [Act.put, List.setIfInBounds_toArray, List.set_cons_zero, List.set_cons_succ]
      refine wpAnyZ_takeL 28 (v := (.int .i64 (K.length : Int))) rfl (by kernel_rfl) (by kernel_rfl) (by kernel_rfl) (by kernel_rfl) (by kernel_rfl) (fun _ _ _ h => h) (Or.inl ⟨by rfl, ?_⟩) hS ?_
      · intro w' _
        go_simp
      simp only [Act.put, List.setIfInBounds_toArray, List.set_cons_zero, List.set_cons_succ]
      refine wpAnyZ_takeL 29 (v := (.pointer (some ⟨g8, K.length, none⟩))) rfl (by kernel_rfl) (by kernel_rfl) (by kernel_rfl) (by kernel_rfl) (by kernel_rfl) (fun _ _ _ h => h) (Or.inl ⟨by rfl, ?_⟩) hS ?_
      · intro w' _
        go_simp
      simp only [Act.put, List.setIfInBounds_toArray, List.set_cons_zero, List.set_cons_succ]
      refine wpAnyZ_takeL 30 (v := (.int .u8 7)) rfl (by kernel_rfl) (by kernel_rfl) (by kernel_rfl) (by kernel_rfl) (by kernel_rfl) (fun _ _ _ h => h) (Or.inl ⟨by rfl, ?_⟩) hS ?_
      · intro w' hw'
        have c9 := seven hw'.k
        go_simp
      simp only [Act.put, List.setIfInBounds_toArray, List.set_cons_zero, List.set_cons_succ]
      refine wpAnyZ_takeL 31 (v := (.bool true)) rfl (by kernel_rfl) (by kernel_rfl) (by kernel_rfl) (by kernel_rfl) (by kernel_rfl) (fun _ _ _ h => h) (Or.inl ⟨by rfl, ?_⟩) hS ?_
      · intro w' _
        go_simp
      simp only [Act.put, List.setIfInBounds_toArray, List.set_cons_zero, List.set_cons_succ]
      refine wpAnyZ_takeL 32 rfl (by kernel_rfl) (by kernel_rfl) (by kernel_rfl) (by kernel_rfl) (by kernel_rfl) (fun _ _ _ h => h) (yieldsIf_pick rfl _ _ _ rfl true rfl _ rfl) hS ?_
      simp only [Act.put, List.setIfInBounds_toArray, List.set_cons_zero, List.set_cons_succ]
      refine wpAnyZ_wp 33 rfl (by kernel_rfl) rfl ?_
      refine wp_assign_run _ rfl (.bool true) rfl ⟨fun e => hS, ?_⟩
      refine wpAnyZ_done (by kernel_rfl) ?_ _
      have HB := hS.s.b
      clear hS
      refine aK _ _ ?_
      clear aK
      go_wp2
      go_ret
      exact ⟨rfl, HB⟩
    · unfold wpOp
      go_simp
      left
      have b56 := (Below.refl U1.heap.size U1).alloc (Nat.le_refl _) (.cells #[.slice pb kk cb, .slice (tailP pb cb kk) (L.length - kk) (cb - kk)] 22)
      have P56 := sp_two 22 (hS.s.bs.head kk lkk) (hS.s.bs.tail kk lkk)
      replace hS := LgT.below hS b56
      replace P47 := SP.below P47 b56
      refine ⟨hS, ?_⟩
      generalize World.alloc U1 _ = U2 at *
      clear b56
      generalize U1.heap.size = g56 at *
      refine wpAnyZ_one (i := 3) (by kernel_rfl) ?_
      unfold wpOp
      go_simp
      left
      refine (sum_any cuT sqT U2 v3 _ _ _ hS.s.tab hS.s.sq hS.r P47 bKr (fun x hx => by rw [List.mem_singleton.1 hx]; exact bL) (by simp) (by simp) (by simp; omega) (by simp; omega)).mono ?_
      rintro _ U3 ⟨rfl, b⟩
      rw [e47]
      replace hS := LgT.below hS b
      replace P47 := SP.below P47 b
      replace P56 := SP.below P56 b
      refine ⟨hS, ?_⟩
      clear b
      refine wpAnyZ_one (i := 12) (by kernel_rfl) ?_
      unfold wpOp
      go_simp
      left
      refine (sum_any cuT sqT U3 _ _ K _ hS.s.tab hS.s.sq (SB.of_ba' (c := c8) (n := K.length) (l := K) (by have := hS.k.take K.length; rw [e8] at this; exact this) rfl (by omega)) P56 bK (fun x hx => by
        simp only [List.mem_cons, List.not_mem_nil, or_false] at hx
        rcases hx with rfl | rfl
        · exact bL.take _
        · exact bL.drop _) (by simp) (by simp) (by omega) (by simp; omega)).mono ?_
      rintro _ U4 ⟨rfl, b⟩
      rw [e56]
      replace hS := LgT.below hS b
      refine ⟨hS, ?_⟩
      clear b P47 P56
      refine wpAnyZ_takeL 13 rfl (by kernel_rfl) (by kernel_rfl) (by kernel_rfl) (by kernel_rfl) (by kernel_rfl) (fun _ _ _ h => h) (yieldsIf_eql rfl 25 _ _ _ rfl _ _ rfl rfl (by kernel_rfl) true (fun W => by rw [eql_keys _ _ lO lO]; simp)) hS ?_
      simp only [Act.put, List.setIfInBounds_toArray, List.set_cons_zero, List.set_cons_succ]
      refine wpAnyZ_takeL 14 rfl (by kernel_rfl) (by kernel_rfl) (by kernel_rfl) (by kernel_rfl) (by kernel_rfl) (fun _ _ _ h => h) (yieldsIf_move rfl _ rfl _ rfl) hS ?_
      simp only [Act.put, List.setIfInBounds_toArray, List.set_cons_zero, List.set_cons_succ]
      refine wpAnyZ_takeL 15 rfl (by kernel_rfl) (by kernel_rfl) (by kernel_rfl) (by kernel_rfl) (by kernel_rfl) (fun _ _ _ h => h) (yieldsIf_move rfl _ rfl _ rfl) hS ?_
      simp only [Act.put, List.setIfInBounds_toArray, List.set_cons_zero, List.set_cons_succ]
      refine wpAnyZ_takeL 16 rfl (by kernel_rfl) (by kernel_rfl) (by kernel_rfl) (by kernel_rfl) (by kernel_rfl) (fun _ _ _ h => h) (yieldsIf_conv rfl _ rfl (.slice (some ⟨g8, 0, none⟩) K.length c8) rfl K (fun _ h => SB.of_ba' (by have := h.k.take K.length; rw [e8] at this; exact this) rfl (by omega))) hS ?_
      simp only [Act.put, List.setIfInBounds_toArray, List.set_cons_zero, List.set_cons_succ]
      refine wpAnyZ_takeL 17 rfl (by kernel_rfl) (by kernel_rfl) (by kernel_rfl) (by kernel_rfl) (by kernel_rfl) (fun _ _ _ h => h) (yieldsIf_move rfl _ rfl _ rfl) hS ?_
      simp only [Act.put, List.setIfInBounds_toArray, List.set_cons_zero, List.set_cons_succ]
      refine wpAnyZ_takeL 18 rfl (by kernel_rfl) (by kernel_rfl) (by kernel_rfl) (by kernel_rfl) (by kernel_rfl) (fun _ _ _ h => h) (yieldsIf_conv rfl _ rfl (.slice pk K.length ck) rfl K (fun _ h => h.s.key)) hS ?_
      simp only [Act.put, List.setIfInBounds_toArray, List.set_cons_zero, List.set_cons_succ]
      refine wpAnyZ_takeL 19 (v := (.bool true)) rfl (by kernel_rfl) (by kernel_rfl) (by kernel_rfl) (by kernel_rfl) (by kernel_rfl) (fun _ _ _ h => h) (Or.inl ⟨by rfl, ?_⟩) hS ?_
      · intro w' _
        go_simp
      simp only [Act.put, List.setIfInBounds_toArray, List.set_cons_zero, List.set_cons_succ]
      refine wpAnyZ_takeL 20 rfl (by kernel_rfl) (by kernel_rfl) (by kernel_rfl) (by kernel_rfl) (by kernel_rfl) (fun _ _ _ h => h) (yieldsIf_pick rfl _ _ _ rfl true rfl _ rfl) hS ?_
      simp only [Act.put, List.setIfInBounds_toArray, List.set_cons_zero, List.set_cons_succ]
      refine wpAnyZ_takeL 21 rfl (by kernel_rfl) (by kernel_rfl) (by kernel_rfl) (by kernel_rfl) (by kernel_rfl) (fun _ _ _ h => h) (yieldsIf_move rfl _ rfl _ rfl) hS ?_
      simp only [Act.put, List.setIfInBounds_toArray, List.set_cons_zero, List.set_cons_succ]
      refine wpAnyZ_takeL 22 rfl (by kernel_rfl) (by kernel_rfl) (by kernel_rfl) (by kernel_rfl) (by kernel_rfl) (fun _ _ _ h => h) (yieldsIf_move rfl _ rfl _ rfl) hS ?_
      simp only [Act.put, List.setIfInBounds_toArray, List.set_cons_zero, List.set_cons_succ]
      refine wpAnyZ_takeL 23 rfl (by kernel_rfl) (by kernel_rfl) (by kernel_rfl) (by kernel_rfl) (by kernel_rfl) (fun _ _ _ h => h) (yieldsIf_move rfl _ rfl _ rfl) hS ?_
      simp only [Act.put, List.setIfInBounds_toArray, List.set_cons_zero, List.set_cons_succ]
      refine wpAnyZ_takeL 24 (v := (.int .i64 (K.length : Int))) rfl (by kernel_rfl) (by kernel_rfl) (by kernel_rfl) (by kernel_rfl) (by kernel_rfl) (fun _ _ _ h => h) (Or.inl ⟨by rfl, ?_⟩) hS ?_
      · intro w' _
        go_simp
      simp only [Act.put, List.setIfInBounds_toArray, List.set_cons_zero, List.set_cons_succ]
      refine wpAnyZ_takeL 25 (v := (.int .i64 ((K.length : Int) + 1))) rfl (by kernel_rfl) (by kernel_rfl) (by kernel_rfl) (by kernel_rfl) (by kernel_rfl) (fun _ _ _ h => h) (Or.inl ⟨by rfl, ?_⟩) hS ?_
      · intro w' _
        go_simp
      simp only [Act.put, List.setIfInBounds_toArray, List.set_cons_zero, List.set_cons_succ]
      refine wpAnyZ_takeL 26 (v := (.slice (some ⟨g8, 0, none⟩) (K.length + 1) c8)) rfl (by kernel_rfl) (by kernel_rfl) (by kernel_rfl) (by kernel_rfl) (by kernel_rfl) (fun _ _ _ h => h) (Or.inl ⟨by rfl, ?_⟩) hS ?_
      · intro w' _
        go_simp
      simp only [Act.put, List.setIfInBounds_toArray, List.set_cons_zero, List.set_cons_succ]
      refine wpAnyZ_takeL 27 rfl (by kernel_rfl) (by kernel_rfl) (by kernel_rfl) (by kernel_rfl) (by kernel_rfl) (fun _ _ _ h => h) (yieldsIf_move rfl _ rfl _ rfl) hS ?_
      simp only [Act.put, List.setIfInBounds_toArray, List.set_cons_zero, List.set_cons_succ]
      refine wpAnyZ_takeL 28 (v := (.int .i64 (K.length : Int))) rfl (by kernel_rfl) (by kernel_rfl) (by kernel_rfl) (by kernel_rfl) (by kernel_rfl) (fun _ _ _ h => h) (Or.inl ⟨by rfl, ?_⟩) hS ?_
      · intro w' _
        go_simp
      simp only [Act.put, List.setIfInBounds_toArray, List.set_cons_zero, List.set_cons_succ]
      refine wpAnyZ_takeL 29 (v := (.pointer (some ⟨g8, K.length, none⟩))) rfl (by kernel_rfl) (by kernel_rfl) (by kernel_rfl) (by kernel_rfl) (by kernel_rfl) (fun _ _ _ h => h) (Or.inl ⟨by rfl, ?_⟩) hS ?_
      · intro w' _
        go_simp
      simp only [Act.put, List.setIfInBounds_toArray, List.set_cons_zero, List.set_cons_succ]
      refine wpAnyZ_takeL 30 (v := (.int .u8 7)) rfl (by kernel_rfl) (by kernel_rfl) (by kernel_rfl) (by kernel_rfl) (by kernel_rfl) (fun _ _ _ h => h) (Or.inl ⟨by rfl, ?_⟩) hS ?_
      · intro w' hw'
        have c9 := seven hw'.k
        go_simp
      simp only [Act.put, List.setIfInBounds_toArray, List.set_cons_zero, List.set_cons_succ]
      refine wpAnyZ_takeL 31 (v := (.bool true)) rfl (by kernel_rfl) (by kernel_rfl) (by kernel_rfl) (by kernel_rfl) (by kernel_rfl) (fun _ _ _ h => h) (Or.inl ⟨by rfl, ?_⟩) hS ?_
      · intro w' _
        go_simp
      simp only [Act.put, List.setIfInBounds_toArray, List.set_cons_zero, List.set_cons_succ]
      refine wpAnyZ_takeL 32 rfl (by kernel_rfl) (by kernel_rfl) (by kernel_rfl) (by kernel_rfl) (by kernel_rfl) (fun _ _ _ h => h) (yieldsIf_pick rfl _ _ _ rfl true rfl _ rfl) hS ?_
      simp only [Act.put, List.setIfInBounds_toArray, List.set_cons_zero, List.set_cons_succ]
      refine wpAnyZ_wp 33 rfl (by kernel_rfl) rfl ?_
      refine wp_assign_run _ rfl (.bool true) rfl ⟨fun e => hS, ?_⟩
      refine wpAnyZ_done (by kernel_rfl) ?_ _
      have HB := hS.s.b
      clear hS
      refine aK _ _ ?_
      clear aK
      go_wp2
      go_ret
      exact ⟨rfl, HB⟩
  · unfold wpOp
    go_simp
    left
    have b56 := (Below.refl U.heap.size U).alloc (Nat.le_refl _) (.cells #[.slice pb kk cb, .slice (tailP pb cb kk) (L.length - kk) (cb - kk)] 22)
    have P56 := sp_two 22 (hS.s.bs.head kk lkk) (hS.s.bs.tail kk lkk)
    replace hS := LgT.below hS b56
    refine ⟨hS, ?_⟩
    generalize World.alloc U _ = U1 at *
    clear b56
    generalize U.heap.size = g56 at *
    refine wpAnyZ_one (i := 2) (by kernel_rfl) ?_
    unfold wpOp
    go_simp
    left
    have b47 := (Below.refl U1.heap.size U1).alloc (Nat.le_refl _) (.cells #[.slice pb L.length cb] 22)
    have P47 := sp_one 22 hS.s.bs
    replace hS := LgT.below hS b47
    replace P56 := SP.below P56 b47
    refine ⟨hS, ?_⟩
    generalize World.alloc U1 _ = U2 at *
    clear b47
    generalize U1.heap.size = g47 at *
    refine wpAnyZ_one (i := 3) (by kernel_rfl) ?_
    unfold wpOp
    go_simp
    left
    refine (sum_any cuT sqT U2 v3 _ _ _ hS.s.tab hS.s.sq hS.r P47 bKr (fun x hx => by rw [List.mem_singleton.1 hx]; exact bL) (by simp) (by simp) (by simp; omega) (by simp; omega)).mono ?_
    rintro _ U3 ⟨rfl, b⟩
    rw [e47]
    replace hS := LgT.below hS b
    replace P56 := SP.below P56 b
    replace P47 := SP.below P47 b
    refine ⟨hS, ?_⟩
    clear b
    refine wpAnyZ_one (i := 12) (by kernel_rfl) ?_
    unfold wpOp
    go_simp
    left
    refine (sum_any cuT sqT U3 _ _ K _ hS.s.tab hS.s.sq (SB.of_ba' (c := c8) (n := K.length) (l := K) (by have := hS.k.take K.length; rw [e8] at this; exact this) rfl (by omega)) P56 bK (fun x hx => by
      simp only [List.mem_cons, List.not_mem_nil, or_false] at hx
      rcases hx with rfl | rfl
      · exact bL.take _
      · exact bL.drop _) (by simp) (by simp) (by omega) (by simp; omega)).mono ?_
    rintro _ U4 ⟨rfl, b⟩
    rw [e56]
    replace hS := LgT.below hS b
    refine ⟨hS, ?_⟩
    clear b P47 P56
    refine wpAnyZ_takeL 13 rfl (by kernel_rfl) (by kernel_rfl) (by kernel_rfl) (by kernel_rfl) (by kernel_rfl) (fun _ _ _ h => h) (yieldsIf_eql rfl 25 _ _ _ rfl _ _ rfl rfl (by kernel_rfl) true (fun W => by rw [eql_keys _ _ lO lO]; simp)) hS ?_
    simp only [Act.put, List.setIfInBounds_toArray, List.set_cons_zero, List.set_cons_succ]
    refine wpAnyZ_takeL 14 rfl (by kernel_rfl) (by kernel_rfl) (by kernel_rfl) (by kernel_rfl) (by kernel_rfl) (fun _ _ _ h => h) (yieldsIf_move rfl _ rfl _ rfl) hS ?_
    simp only [Act.put, List.setIfInBounds_toArray, List.set_cons_zero, List.set_cons_succ]
    refine wpAnyZ_takeL 15 rfl (by kernel_rfl) (by kernel_rfl) (by kernel_rfl) (by kernel_rfl) (by kernel_rfl) (fun _ _ _ h => h) (yieldsIf_move rfl _ rfl _ rfl) hS ?_
    simp only [Act.put, List.setIfInBounds_toArray, List.set_cons_zero, List.set_cons_succ]
    refine wpAnyZ_takeL 16 rfl (by kernel_rfl) (by kernel_rfl) (by kernel_rfl) (by kernel_rfl) (by kernel_rfl) (fun _ _ _ h => h) (yieldsIf_conv rfl _ rfl (.slice (some ⟨g8, 0, none⟩) K.length c8) rfl K (fun _ h => SB.of_ba' (by have := h.k.take K.length; rw [e8] at this; exact this) rfl (by omega))) hS ?_
    simp only [Act.put, List.setIfInBounds_toArray, List.set_cons_zero, List.set_cons_succ]
    refine wpAnyZ_takeL 17 rfl (by kernel_rfl) (by kernel_rfl) (by kernel_rfl) (by kernel_rfl) (by kernel_rfl) (fun _ _ _ h => h) (yieldsIf_move rfl _ rfl _ rfl) hS ?_
    simp only [Act.put, List.setIfInBounds_toArray, List.set_cons_zero, List.set_cons_succ]
    refine wpAnyZ_takeL 18 rfl (by kernel_rfl) (by kernel_rfl) (by kernel_rfl) (by kernel_rfl) (by kernel_rfl) (fun _ _ _ h => h) (yieldsIf_conv rfl _ rfl (.slice pk K.length ck) rfl K (fun _ h => h.s.key)) hS ?_
    simp only [Act.put, List.setIfInBounds_toArray, List.set_cons_zero, List.set_cons_succ]
    refine wpAnyZ_takeL 19 (v := (.bool true)) rfl (by kernel_rfl) (by kernel_rfl) (by kernel_rfl) (by kernel_rfl) (by kernel_rfl) (fun _ _ _ h => h) (Or.inl ⟨by rfl, ?_⟩) hS ?_
    · intro w' _
      go_simp
    simp only [Act.put, List.setIfInBounds_toArray, List.set_cons_zero, List.set_cons_succ]
    refine wpAnyZ_takeL 20 rfl (by kernel_rfl) (by kernel_rfl) (by kernel_rfl) (by kernel_rfl) (by kernel_rfl) (fun _ _ _ h => h) (yieldsIf_pick rfl _ _ _ rfl true rfl _ rfl) hS ?_
    simp only [Act.put, List.setIfInBounds_toArray, List.set_cons_zero, List.set_cons_succ]
    refine wpAnyZ_takeL 21 rfl (by kernel_rfl) (by kernel_rfl) (by kernel_rfl) (by kernel_rfl) (by kernel_rfl) (fun _ _ _ h => h) (yieldsIf_move rfl _ rfl _ rfl) hS ?_
    simp only [Act.put, List.setIfInBounds_toArray, List.set_cons_zero, List.set_cons_succ]
    refine wpAnyZ_takeL 22 rfl (by kernel_rfl) (by kernel_rfl) (by kernel_rfl) (by kernel_rfl) (by kernel_rfl) (fun _ _ _ h => h) (yieldsIf_move rfl _ rfl _ rfl) hS ?_
    simp only [Act.put, List.setIfInBounds_toArray, List.set_cons_zero, List.set_cons_succ]
    refine wpAnyZ_takeL 23 rfl (by kernel_rfl) (by kernel_rfl) (by kernel_rfl) (by kernel_rfl) (by kernel_rfl) (fun _ _ _ h => h) (yieldsIf_move rfl _ rfl _ rfl) hS ?_
    simp only [Act.put, List.setIfInBounds_toArray, List.set_cons_zero, List.set_cons_succ]
    refine wpAnyZ_takeL 24 (v := (.int .i64 (K.length : Int))) rfl (by kernel_rfl) (by kernel_rfl) (by kernel_rfl) (by kernel_rfl) (by kernel_rfl) (fun _ _ _ h => h) (Or.inl ⟨by rfl, ?_⟩) hS ?_
    · intro w' _
      go_simp
    simp only [Act.put, List.setIfInBounds_toArray, List.set_cons_zero, List.set_cons_succ]
    refine wpAnyZ_takeL 25 (v := (.int .i64 ((K.length : Int) + 1))) rfl (by kernel_rfl) (by kernel_rfl) (by kernel_rfl) (by kernel_rfl) (by kernel_rfl) (fun _ _ _ h => h) (Or.inl ⟨by rfl, ?_⟩) hS ?_
    · intro w' _
      go_simp
    simp only [Act.put, List.setIfInBounds_toArray, List.set_cons_zero, List.set_cons_succ]
    refine wpAnyZ_takeL 26 (v := (.slice (some ⟨g8, 0, none⟩) (K.length + 1) c8)) rfl (by kernel_rfl) (by kernel_rfl) (by kernel_rfl) (by kernel_rfl) (by kernel_rfl) (fun _ _ _ h => h) (Or.inl ⟨by rfl, ?_⟩) hS ?_
    · intro w' _
      go_simp
    simp only [Act.put, List.setIfInBounds_toArray, List.set_cons_zero, List.set_cons_succ]
    refine wpAnyZ_takeL 27 rfl (by kernel_rfl) (by kernel_rfl) (by kernel_rfl) (by kernel_rfl) (by kernel_rfl) (fun _ _ _ h => h) (yieldsIf_move rfl _ rfl _ rfl) hS ?_
    simp only [Act.put, List.setIfInBounds_toArray, List.set_cons_zero, List.set_cons_succ]
    refine wpAnyZ_takeL 28 (v := (.int .i64 (K.length : Int))) rfl (by kernel_rfl) (by kernel_rfl) (by kernel_rfl) (by kernel_rfl) (by kernel_rfl) (fun _ _ _ h => h) (Or.inl ⟨by rfl, ?_⟩) hS ?_
    · intro w' _
      go_simp
    simp only [Act.put, List.setIfInBounds_toArray, List.set_cons_zero, List.set_cons_succ]
    refine wpAnyZ_takeL 29 (v := (.pointer (some ⟨g8, K.length, none⟩))) rfl (by kernel_rfl) (by kernel_rfl) (by kernel_rfl) (by kernel_rfl) (by kernel_rfl) (fun _ _ _ h => h) (Or.inl ⟨by rfl, ?_⟩) hS ?_
    · intro w' _
      go_simp
    simp only [Act.put, List.setIfInBounds_toArray, List.set_cons_zero, List.set_cons_succ]
    refine wpAnyZ_takeL 30 (v := (.int .u8 7)) rfl (by kernel_rfl) (by kernel_rfl) (by kernel_rfl) (by kernel_rfl) (by kernel_rfl) (fun _ _ _ h => h) (Or.inl ⟨by rfl, ?_⟩) hS ?_
    · intro w' hw'
      have c9 := seven hw'.k
      go_simp
    simp only [Act.put, List.setIfInBounds_toArray, List.set_cons_zero, List.set_cons_succ]
    refine wpAnyZ_takeL 31 (v := (.bool true)) rfl (by kernel_rfl) (by kernel_rfl) (by kernel_rfl) (by kernel_rfl) (by kernel_rfl) (fun _ _ _ h => h) (Or.inl ⟨by rfl, ?_⟩) hS ?_
    · intro w' _
      go_simp
    simp only [Act.put, List.setIfInBounds_toArray, List.set_cons_zero, List.set_cons_succ]
    refine wpAnyZ_takeL 32 rfl (by kernel_rfl) (by kernel_rfl) (by kernel_rfl) (by kernel_rfl) (by kernel_rfl) (fun _ _ _ h => h) (yieldsIf_pick rfl _ _ _ rfl true rfl _ rfl) hS ?_
    simp only [Act.put, List.setIfInBounds_toArray, List.set_cons_zero, List.set_cons_succ]
    refine wpAnyZ_wp 33 rfl (by kernel_rfl) rfl ?_
    refine wp_assign_run _ rfl (.bool true) rfl ⟨fun e => hS, ?_⟩
    refine wpAnyZ_done (by kernel_rfl) ?_ _
    have HB := hS.s.b
    clear hS
    refine aK _ _ ?_
    clear aK
    go_wp2
    go_ret
    exact ⟨rfl, HB⟩
end Go.Proofs.YtjkocockbglenaaDoor
