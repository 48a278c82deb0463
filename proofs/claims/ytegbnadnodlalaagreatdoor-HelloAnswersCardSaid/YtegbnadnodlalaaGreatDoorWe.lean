/- The program's ReadAnswer (printed by gen14/we.py). -/
import Derived.Test.YtegbnadnodlalaaGreatDoorWb0Wd
import Derived.Test.YtegbnadnodlalaaGreatDoorE3c0E4a
namespace Go.Proofs.YtegbnadnodlalaaGreatDoor
open Go.RowKit
/-- What ReadAnswer comes to, step by step. -/
structure RA (l : List Nat) (T1 T2 : List Nat × List Nat × Nat) (y : Nat) (l3 : List Nat) (c3 c4 f : Nat) : Prop where
 h1 : tookS 32 l 0 = T1
 h2 : tookS 32 T1.2.1 T1.2.2 = T2
 hy : (tookS 1 T2.2.1 T2.2.2).1.getD 0 0 = y
 h3 : (tookS 1 T2.2.1 T2.2.2).2.1 = l3
 hc : (tookS 1 T2.2.1 T2.2.2).2.2 = c3
 h4 : (if 1 < y then failS c3 5 else c3) = c4
 hf' : endS l3 c4 = f
theorem RA.mk' (l : List Nat) : ∃ T1 T2 y l3 c3 c4 f, RA l T1 T2 y l3 c3 c4 f := ⟨_, _, _, _, _, _, _, ⟨rfl, rfl, rfl, rfl, rfl, rfl, rfl⟩⟩
theorem RA.is {l : List Nat} {T1 T2 : List Nat × List Nat × Nat} {y : Nat} {l3 : List Nat} {c3 c4 f : Nat} (h : RA l T1 T2 y l3 c3 c4 f) : readA l = if f ≠ 0 then (f, z32, z32, false) else (0, T1.1, T2.1, y == 1) := by
 obtain ⟨h1, h2, hy, h3, hc, h4, hf⟩ := h
 subst h1 h2 hy h3 hc h4 hf
 rfl
theorem RA.hf {l : List Nat} {T1 T2 : List Nat × List Nat × Nat} {y : Nat} {l3 : List Nat} {c3 c4 f : Nat} (h : RA l T1 T2 y l3 c3 c4 f) : finS l3 c4 = f := (endS_fin _ _).symm.trans h.hf'
theorem RA.full {l : List Nat} {T1 T2 : List Nat × List Nat × Nat} {y : Nat} {l3 : List Nat} {c3 c4 f : Nat} (h : RA l T1 T2 y l3 c3 c4 f) (h0 : f = 0) : T1.1.length = 32 ∧ T2.1.length = 32 := by
 have a := finS_zero (h.hf.trans h0)
 have b : c3 = 0 := by
  have h4 := h.h4
  rw [a] at h4
  by_cases hy : 1 < y
  ·
   rw [if_pos hy] at h4
   unfold failS at h4
   split at h4
   · cases h4
   · exact h4
  ·
   rw [if_neg hy] at h4
   exact h4
 obtain ⟨b1, _⟩ := took_zero 1 T2.2.1 T2.2.2 (by rw [h.hc]; exact b)
 obtain ⟨c1, c2⟩ := took_zero 32 T1.2.1 T1.2.2 (by rw [h.h2]; exact b1)
 obtain ⟨_, d2⟩ := took_zero 32 l 0 (by rw [h.h1]; exact c1)
 rw [h.h2] at c2
 rw [h.h1] at d2
 exact ⟨d2, c2⟩
theorem RA.ans {l : List Nat} {T1 T2 : List Nat × List Nat × Nat} {y : Nat} {l3 : List Nat} {c3 c4 f : Nat} (h : RA l T1 T2 y l3 c3 c4 f) (XV : Array Value) (hX : (if f = 0 then ansV (padN 32 T1.1) (padN 32 T2.1) (y == 1) else ansV z32 z32 false) = XV) :
  Value.tuple #[.agg XV, .int .i64 (f : Int)] = .tuple #[.agg (ansV (readA l).2.1 (readA l).2.2.1 (readA l).2.2.2), .int .i64 ((readA l).1 : Int)] := by
 rw [h.is, ← hX]
 by_cases f0 : f = 0
 · rw [if_pos f0, if_neg (fun e => e f0), padN_full (h.full f0).1, padN_full (h.full f0).2, f0]
 · rw [if_neg f0, if_pos f0]
theorem ans_set {r s : List Nat} (hr : r.length = 32) (hs : s.length = 32) (p q : Bool) : (ansV r s p).setIfInBounds 64 (.bool q) = ansV r s q := by
 unfold ansV ansL
 rw [List.setIfInBounds_toArray]
 congr 1
 rw [List.set_append_right _ _ (by rw [vals_length, hr]; decide), List.set_append_right _ _ (by rw [vals_length, vals_length, hr, hs]; decide), vals_length, vals_length, hr, hs]
 rfl
set_option maxHeartbeats 8000000 in
set_option maxRecDepth 100000 in
theorem readanswer_m (l : List Nat) (q : Option Addr) (n cc : Nat) (bb : Bytes l) (hn : n ≤ 1000000) (W : World) (hs : SB W (.slice q n cc) l) :
  Calls Tryz.prog 6 #[.slice q n cc] W fun e w' => e = .returned (.tuple #[.agg (ansV (readA l).2.1 (readA l).2.2.1 (readA l).2.2.2), .int .i64 ((readA l).1 : Int)]) ∧ Below W.heap.size W w' := by
 obtain ⟨T1, T2, y, l3, c3, c4, f, H⟩ := RA.mk' l
 have NC := Lib.hid (fun (w : World) (h : Below W.heap.size W w) => new_m l q n cc bb hn w (hs.below h))
 have KC := fun (g : Nat) (w : World) (p : Option Addr) (h : RM g w p l 0) => key_m g p l 0 w h
 rw [H.h1] at KC
 have KD := fun (g : Nat) (w : World) (p : Option Addr) (h : RM g w p T1.2.1 T1.2.2) => key_m g p T1.2.1 T1.2.2 w h
 rw [H.h2] at KD
 have BC := fun (g : Nat) (w : World) (p : Option Addr) (h : RM g w p T2.2.1 T2.2.2) => byte_m g p T2.2.1 T2.2.2 w h (Nat.le_of_lt h.lt)
 rw [H.hy, H.h3, H.hc] at BC
 have lk : (padN 32 T1.1).length = 32 := padN_length (by rw [← H.h1]; exact tookS_len _ _ _)
 have ls : (padN 32 T2.1).length = 32 := padN_length (by rw [← H.h2]; exact tookS_len _ _ _)
 have WC := fun (b : Bool) (g : Nat) (w : World) (p : Option Addr) (h : RM g w p l3 c4) => wholeAns_m g p l3 c4 (ansV (padN 32 T1.1) (padN 32 T2.1) b) (ansV_size lk ls b) (ansV_one _ _ _) w h
 rw [H.hf] at WC
 have HX := Lib.hid H
 have BC := Lib.hid BC
 have KC := Lib.hid KC
 have KD := Lib.hid KD
 have WC := Lib.hid WC
 have LK := Lib.hid (And.intro lk ls)
 have ZP := Lib.hid (fun w => run_ans w (padN 32 T1.1) (padN 32 T2.1) lk ls)
 obtain ⟨RS, hRS⟩ : ∃ RS, Value.tuple #[.agg (ansV (readA l).2.1 (readA l).2.2.1 (readA l).2.2.2), .int .i64 ((readA l).1 : Int)] = RS := ⟨_, rfl⟩
 rw [hRS]
 have HRS := Lib.hid hRS
 clear hs bb hn H lk ls hRS
 go_enter Tryz.func6, Tryz.ntmps6
 go_upto_region 0 with fail
 rename_i aK
 refine wp_region_seq ?_
 refine wpSeq_wp rfl ?_
 unfold Oper.wp execOp
 go_simp
 refine sas (.int .i64 0) rfl rfl rfl ?_
 simp only [AP]
 refine wpSeq_nil ?_
 refine aK _ _ ?_
 clear aK
 generalize hW : World.alloc W _ = w1
 obtain ⟨Z, hZ, KR, b0⟩ : ∃ Z : Array Value, Z.size = 65 ∧ Blk w1 W.heap.size 25 Z ∧ Below W.heap.size W w1 := by
  rw [← hW]
  exact ⟨_, rfl, Blk.new _ _ _, (Below.refl _ _).alloc (Nat.le_refl _) _⟩
 clear hW
 go_upto_region 1 with fail
 rename_i aK
 refine wp_region_seq ?_
 refine smv (.slice q n cc) rfl rfl rfl ?_
 simp only [AP]
 refine wpSeq_wp rfl ?_
 unfold Oper.wp execOp
 go_simp
 refine (NC.out w1 b0).mono ?_
 rintro _ w2 ⟨g, rfl, hg, R2, b2⟩
 have NG := Lib.hid (Nat.lt_of_lt_of_le KR.lt hg)
 replace KR := KR.below' b2
 replace b0 := b0.trans (b2.mono b0.size)
 clear NC b2 hg
 go_simp
 refine svl (.agg #[.pointer (some ⟨g, 0, none⟩)]) (.inl ⟨by rfl, fun w' _ => by (go_simp)⟩) ?_
 simp only [AP]
 refine wpSeq_wp rfl ?_
 unfold Oper.wp execOp
 go_simp
 generalize hW : World.alloc w2 _ = w3
 obtain ⟨Z4, hZ4, K4, b3⟩ : ∃ Z4 : Array Value, Z4.size = 1 ∧ Blk w3 w2.heap.size 59 Z4 ∧ Below w2.heap.size w2 w3 := by
  rw [← hW]
  exact ⟨_, rfl, Blk.new _ _ _, (Below.refl _ _).alloc (Nat.le_refl _) _⟩
 clear hW
 have NG4 := Lib.hid (show W.heap.size < w2.heap.size ∧ g < w2.heap.size from ⟨KR.lt, R2.lt⟩)
 replace KR := KR.below' b3
 replace R2 := R2.below b3
 replace b0 := b0.trans (b3.mono b0.size)
 clear b3
 obtain ⟨g4, hg4⟩ : ∃ g, w2.heap.size = g := ⟨_, rfl⟩
 rw [hg4] at K4 NG4 ⊢
 clear hg4
 refine wpSeq_store_row rfl 59 _ _ rfl g4 #[.pointer (some ⟨g, 0, none⟩)] rfl rfl _ _ K4 info_reader (by rw [hZ4]; rfl) (by simp [Value.oneCell']) ?_
 simp only [Act.put]
 refine wpSeq_nil ?_
 refine (by assumption : ∀ (a : Act) (w : World), _ → _) _ _ ?_
 have G4 := grown_one w3 g4 #[.pointer (some ⟨g, 0, none⟩)]
 replace R2 := R2.other G4 NG4.out.2
 replace K4 := K4.row #[.pointer (some ⟨g, 0, none⟩)]
 replace KR : Blk (w3.setRow g4 #[.pointer (some ⟨g, 0, none⟩)]) W.heap.size 25 Z := KR.rowFar (by have := NG4.out; omega) _
 have gg4 : W.heap.size ≤ g4 := by have := NG4.out; omega
 replace b0 := below_setRow b0 gg4 #[.pointer (some ⟨g, 0, none⟩)]
 generalize World.setRow w3 g4 _ = w4 at *
 clear G4 gg4
 have bd := below_drew (Below.refl w4.heap.size w4)
 replace K4 := K4.below' bd
 replace KR := KR.below' bd
 replace R2 := R2.below bd
 replace b0 := b0.trans (bd.mono b0.size)
 clear bd
 go_upto_region 2 with fail
 rename_i K2 a2
 have AK2 : ∀ (g5 : Nat) (w' : World), g < g5 → g4 < g5 → RM g w' (some ⟨g, 0, none⟩) T2.2.1 T2.2.2 → Blk w' g4 59 #[.pointer (some ⟨g, 0, none⟩)] → Blk w' W.heap.size 25 Z → Blk w' g5 25 (ansV (padN 32 T1.1) (padN 32 T2.1) false) → Below W.heap.size W w' → K2 { tmps := #[.slice q n cc, undef, .pointer (some ⟨W.heap.size, 0, none⟩), .int .i64 0, .pointer (some ⟨g4, 0, none⟩), .pointer (some ⟨g5, 0, none⟩), undef, .slice q n cc, .pointer (some ⟨g, 0, none⟩), .agg #[.pointer (some ⟨g, 0, none⟩)], .agg #[.pointer (some ⟨g, 0, none⟩)], .agg (Iv .u8 (NI (padN 32 T1.1))), .agg #[.pointer (some ⟨g, 0, none⟩)], .agg (Iv .u8 (NI (padN 32 T2.1))), .agg (ansV (padN 32 T1.1) (padN 32 T2.1) false), undef, undef, undef, undef, undef, undef, undef, undef, undef, undef, undef, undef, undef, undef, undef, undef], defers := [] } w' := by
  intro g5 w5 lg lg4 R5 K5 KR5 KA5 b5
  refine a2 _ _ ?_
  clear a2 KC KD R2 K4 KR b0 ZP
  have NG5 := Lib.hid (And.intro lg lg4)
  clear lg lg4
  have q4 : w5.cell? ⟨g4, 0, none⟩ = some (.pointer (some ⟨g, 0, none⟩)) := K5.cell 0
  go_upto_region 3 with fail
  rename_i aK
  refine wp_region_seq ?_
  refine svl (.pointer (some ⟨g4, 0, none⟩)) (.inl ⟨by rfl, fun w' _ => by go_simp⟩) ?_
  simp only [AP]
  refine wpSeq_yield (S := fun w' => w' = w5) (v := .pointer (some ⟨g, 0, none⟩)) (Or.inl ⟨by rfl, fun w' hw' => by (rw [hw']; go_simp)⟩) rfl ?_
  simp only [AP]
  refine wpSeq_wp rfl ?_
  unfold Oper.wp execOp
  go_simp
  refine (BC.out g w5 _ R5).mono ?_
  rintro _ w6 ⟨rfl, R6, GG⟩
  replace K5 : Blk w6 g4 59 #[.pointer (some ⟨g, 0, none⟩)] := (GG.block _ K5.lt (fun e => by have := Option.some.inj e; have := NG4.out; omega)).trans K5
  replace KR5 : Blk w6 W.heap.size 25 Z := (GG.block _ KR5.lt (fun e => by have := Option.some.inj e; have := NG.out; omega)).trans KR5
  replace KA5 : Blk w6 g5 25 _ := (GG.block _ KA5.lt (fun e => by have := Option.some.inj e; have := NG5.out; omega)).trans KA5
  have ng : W.heap.size ≤ g := Nat.le_of_lt NG.out
  replace b5 := below_gb b5 GG ng b5.size
  clear ng GG
  clear BC R5 q4
  go_simp
  refine sas (.int .u8 (y : Int)) rfl rfl rfl ?_
  simp only [AP]
  refine wpSeq_nil ?_
  refine (by assumption : ∀ (a : Act) (w : World), _ → _) _ _ ?_
  go_upto_region 4 with fail
  rename_i KJ aJ K3 a3
  have AK : ∀ (u18 u19 u20 u21 u22 : Value) (w' : World), RM g w' (some ⟨g, 0, none⟩) l3 c4 → Blk w' g4 59 #[.pointer (some ⟨g, 0, none⟩)] → Blk w' W.heap.size 25 Z → Blk w' g5 25 (ansV (padN 32 T1.1) (padN 32 T2.1) false) → Below W.heap.size W w' → KJ { tmps := #[.slice q n cc, undef, .pointer (some ⟨W.heap.size, 0, none⟩), .int .i64 0, .pointer (some ⟨g4, 0, none⟩), .pointer (some ⟨g5, 0, none⟩), .int .u8 (y : Int), .slice q n cc, .pointer (some ⟨g, 0, none⟩), .agg #[.pointer (some ⟨g, 0, none⟩)], .agg #[.pointer (some ⟨g, 0, none⟩)], .agg (Iv .u8 (NI (padN 32 T1.1))), .agg #[.pointer (some ⟨g, 0, none⟩)], .agg (Iv .u8 (NI (padN 32 T2.1))), .agg (ansV (padN 32 T1.1) (padN 32 T2.1) false), .pointer (some ⟨g4, 0, none⟩), .pointer (some ⟨g, 0, none⟩), .int .u8 (y : Int), u18, u19, u20, u21, u22, undef, undef, undef, undef, undef, undef, undef, undef], defers := [] } w' := by
   intro u18 u19 u20 u21 u22 w7 R7 K7 KR7 KA7 b7
   refine aJ _ _ ?_
   clear aJ a3 R6 K5 KR5 KA5 b5
   have c5 : w7.cell? ⟨g5, 64, none⟩ = some (.bool false) := by
    rw [KA7.cell, ansV, ansL, List.getElem?_toArray, List.getElem?_append_right (by rw [vals_length, LK.out.1]; decide), List.getElem?_append_right (by rw [vals_length, vals_length, LK.out.1, LK.out.2]; decide), vals_length, vals_length, LK.out.1, LK.out.2]
    rfl
   have f5 := KA7.frozen 64
   by_cases y1 : y = 1
   ·
    have yi : (y : Int) = 1 := by omega
    have yq : (y == 1) = true := beq_iff_eq.2 y1
    have WD := WC.out true
    have HQ := HX.out.ans
    rw [yq] at HQ
    clear y1 yq WC
    go_upto_region 6 with fail
    rename_i aK
    refine wp_region_seq ?_
    refine smv (.int .u8 (y : Int)) rfl rfl rfl ?_
    simp only [AP]
    refine svl (.bool true) (.inl ⟨by rfl, fun w' _ => by (go_simp; try omega)⟩) ?_
    simp only [AP]
    refine svl (.pointer (some ⟨g5, 64, none⟩)) (.inl ⟨by rfl, fun w' _ => by (go_simp)⟩) ?_
    simp only [AP]
    refine wpSeq_wp rfl ?_
    unfold Oper.wp execOp
    go_simp
    refine wpSeq_nil ?_
    refine (by assumption : ∀ (a : Act) (w : World), _ → _) _ _ ?_
    replace KA7 := KA7.set 64 (.bool true)
    rw [ans_set LK.out.1 LK.out.2] at KA7
    replace K7 : Blk (w7.setCell ⟨g5, 64, none⟩ (.bool true)) g4 59 #[.pointer (some ⟨g, 0, none⟩)] := Blk.far (p := ⟨g5, 64, none⟩) K7 (by have := NG5.out; show g4 ≠ g5; omega) _
    replace KR7 : Blk (w7.setCell ⟨g5, 64, none⟩ (.bool true)) W.heap.size 25 Z := Blk.far (p := ⟨g5, 64, none⟩) KR7 (by have := NG.out; have := NG5.out; show W.heap.size ≠ g5; omega) _
    replace R7 := R7.other (gb_set (B := g5) rfl w7 64 (.bool true)) (by have := NG5.out; omega)
    have g5w : W.heap.size ≤ g5 := by have := NG.out; have := NG5.out; omega
    replace b7 := b7.setCell (p := ⟨g5, 64, none⟩) g5w (.bool true)
    clear c5 f5 g5w
    generalize World.setCell w7 _ _ = w8 at *
    have cz := info_ansV (ansV_size LK.out.1 LK.out.2 true)
    obtain ⟨XV, hXV⟩ : ∃ X, (if f = 0 then ansV (padN 32 T1.1) (padN 32 T2.1) true else ansV z32 z32 false) = X := ⟨_, rfl⟩
    have xz : XV.size = 65 := by
     rw [← hXV]
     split
     · exact ansV_size LK.out.1 LK.out.2 _
     · exact ansV_size z32_length z32_length _
    have x1 : XV.all (·.oneCell') = true := by
     rw [← hXV]
     split
     · exact ansV_one _ _ _
     · exact ansV_one _ _ _
    have xi := info_ansV xz
    rw [hXV] at WD
    have WE := Lib.hid (WD g w8 _ R7)
    replace x1 := Lib.hid x1
    replace HQ := Lib.hid (HQ XV hXV)
    clear WD R7 hXV
    go_upto_region 7 with fail
    rename_i aK
    refine wp_region_seq ?_
    refine wpSeq_yield (S := fun w' => w' = w8) (show YieldsIf _ _ _ _ (.agg #[.pointer (some ⟨g, 0, none⟩)]) _ from yieldsIf_row_wanted (S := fun w' => w' = w8) rfl 59 _ rfl g4 rfl 59 _ _ (fun _ h => h ▸ K7) Tryz.underlying59 rfl info_reader) rfl ?_
    simp only [AP]
    refine wpSeq_yield (S := fun w' => w' = w8) (show YieldsIf _ _ _ _ (.agg (ansV (padN 32 T1.1) (padN 32 T2.1) true)) _ from yieldsIf_row_wanted (S := fun w' => w' = w8) rfl 25 _ rfl g5 rfl 25 _ _ (fun _ h => h ▸ KA7) Tryz.underlying25 rfl cz) rfl ?_
    simp only [AP]
    refine wpSeq_wp rfl ?_
    unfold Oper.wp execOp
    go_simp
    refine WE.out.mono ?_
    rintro _ w9 ⟨rfl, GG⟩
    replace KR7 : Blk w9 W.heap.size 25 Z := (GG.block _ KR7.lt (fun e => by have := Option.some.inj e; have := NG.out; omega)).trans KR7
    have ng : W.heap.size ≤ g := Nat.le_of_lt NG.out
    replace b7 := below_gb b7 GG ng b7.size
    clear WE GG K7 KA7 ng cz
    go_simp
    refine svl (.agg XV) (.inl ⟨by rfl, fun w' _ => by go_simp⟩) ?_
    simp only [AP]
    refine svl (.int .i64 (f : Int)) (.inl ⟨by rfl, fun w' _ => by go_simp⟩) ?_
    simp only [AP]
    refine wpSeq_store_row rfl 25 _ _ rfl W.heap.size XV rfl rfl _ _ KR7 xi (by rw [hZ, xz]) x1.out ?_
    simp only [Act.put]
    refine sas (.int .i64 (f : Int)) rfl rfl rfl ?_
    simp only [AP]
    refine wpSeq_nil ?_
    refine (by assumption : ∀ (a : Act) (w : World), _ → _) _ _ ?_
    go_wp2
    refine bodyPost_ret (results_cell_tmp rfl _ _ _ 25 _ (0, 0) _ _ rfl (Blk.row KR7 _) Tryz.underlying25 rfl xi rfl) rfl ?_
    refine ⟨?_, below_setRow b7 (Nat.le_refl _) _⟩
    rw [← HRS.out, ← HQ.out]
    rfl
   ·
    have yi : ¬ (y : Int) = 1 := by omega
    have yq : (y == 1) = false := beq_eq_false_iff_ne.2 y1
    have WD := WC.out false
    have HQ := HX.out.ans
    rw [yq] at HQ
    clear y1 yq WC
    go_upto_region 6 with fail
    rename_i aK
    refine wp_region_seq ?_
    refine smv (.int .u8 (y : Int)) rfl rfl rfl ?_
    simp only [AP]
    refine svl (.bool false) (.inl ⟨by rfl, fun w' _ => by (go_simp; try omega)⟩) ?_
    simp only [AP]
    refine svl (.pointer (some ⟨g5, 64, none⟩)) (.inl ⟨by rfl, fun w' _ => by (go_simp)⟩) ?_
    simp only [AP]
    refine wpSeq_wp rfl ?_
    unfold Oper.wp execOp
    go_simp
    refine wpSeq_nil ?_
    refine (by assumption : ∀ (a : Act) (w : World), _ → _) _ _ ?_
    replace KA7 := KA7.set 64 (.bool false)
    rw [ans_set LK.out.1 LK.out.2] at KA7
    replace K7 : Blk (w7.setCell ⟨g5, 64, none⟩ (.bool false)) g4 59 #[.pointer (some ⟨g, 0, none⟩)] := Blk.far (p := ⟨g5, 64, none⟩) K7 (by have := NG5.out; show g4 ≠ g5; omega) _
    replace KR7 : Blk (w7.setCell ⟨g5, 64, none⟩ (.bool false)) W.heap.size 25 Z := Blk.far (p := ⟨g5, 64, none⟩) KR7 (by have := NG.out; have := NG5.out; show W.heap.size ≠ g5; omega) _
    replace R7 := R7.other (gb_set (B := g5) rfl w7 64 (.bool false)) (by have := NG5.out; omega)
    have g5w : W.heap.size ≤ g5 := by have := NG.out; have := NG5.out; omega
    replace b7 := b7.setCell (p := ⟨g5, 64, none⟩) g5w (.bool false)
    clear c5 f5 g5w
    generalize World.setCell w7 _ _ = w8 at *
    have cz := info_ansV (ansV_size LK.out.1 LK.out.2 false)
    obtain ⟨XV, hXV⟩ : ∃ X, (if f = 0 then ansV (padN 32 T1.1) (padN 32 T2.1) false else ansV z32 z32 false) = X := ⟨_, rfl⟩
    have xz : XV.size = 65 := by
     rw [← hXV]
     split
     · exact ansV_size LK.out.1 LK.out.2 _
     · exact ansV_size z32_length z32_length _
    have x1 : XV.all (·.oneCell') = true := by
     rw [← hXV]
     split
     · exact ansV_one _ _ _
     · exact ansV_one _ _ _
    have xi := info_ansV xz
    rw [hXV] at WD
    have WE := Lib.hid (WD g w8 _ R7)
    replace x1 := Lib.hid x1
    replace HQ := Lib.hid (HQ XV hXV)
    clear WD R7 hXV
    go_upto_region 7 with fail
    rename_i aK
    refine wp_region_seq ?_
    refine wpSeq_yield (S := fun w' => w' = w8) (show YieldsIf _ _ _ _ (.agg #[.pointer (some ⟨g, 0, none⟩)]) _ from yieldsIf_row_wanted (S := fun w' => w' = w8) rfl 59 _ rfl g4 rfl 59 _ _ (fun _ h => h ▸ K7) Tryz.underlying59 rfl info_reader) rfl ?_
    simp only [AP]
    refine wpSeq_yield (S := fun w' => w' = w8) (show YieldsIf _ _ _ _ (.agg (ansV (padN 32 T1.1) (padN 32 T2.1) false)) _ from yieldsIf_row_wanted (S := fun w' => w' = w8) rfl 25 _ rfl g5 rfl 25 _ _ (fun _ h => h ▸ KA7) Tryz.underlying25 rfl cz) rfl ?_
    simp only [AP]
    refine wpSeq_wp rfl ?_
    unfold Oper.wp execOp
    go_simp
    refine WE.out.mono ?_
    rintro _ w9 ⟨rfl, GG⟩
    replace KR7 : Blk w9 W.heap.size 25 Z := (GG.block _ KR7.lt (fun e => by have := Option.some.inj e; have := NG.out; omega)).trans KR7
    have ng : W.heap.size ≤ g := Nat.le_of_lt NG.out
    replace b7 := below_gb b7 GG ng b7.size
    clear WE GG K7 KA7 ng cz
    go_simp
    refine svl (.agg XV) (.inl ⟨by rfl, fun w' _ => by go_simp⟩) ?_
    simp only [AP]
    refine svl (.int .i64 (f : Int)) (.inl ⟨by rfl, fun w' _ => by go_simp⟩) ?_
    simp only [AP]
    refine wpSeq_store_row rfl 25 _ _ rfl W.heap.size XV rfl rfl _ _ KR7 xi (by rw [hZ, xz]) x1.out ?_
    simp only [Act.put]
    refine sas (.int .i64 (f : Int)) rfl rfl rfl ?_
    simp only [AP]
    refine wpSeq_nil ?_
    refine (by assumption : ∀ (a : Act) (w : World), _ → _) _ _ ?_
    go_wp2
    refine bodyPost_ret (results_cell_tmp rfl _ _ _ 25 _ (0, 0) _ _ rfl (Blk.row KR7 _) Tryz.underlying25 rfl xi rfl) rfl ?_
    refine ⟨?_, below_setRow b7 (Nat.le_refl _) _⟩
    rw [← HRS.out, ← HQ.out]
    rfl
  clear aJ WC
  have q4 : w6.cell? ⟨g4, 0, none⟩ = some (.pointer (some ⟨g, 0, none⟩)) := K5.cell 0
  have HF := HX.out.h4
  by_cases hy : 1 < y
  ·
   rw [if_pos hy] at HF
   have yi : (1 : Int) < (y : Int) := by omega
   have FL := fail_m g (some ⟨g, 0, none⟩) l3 c3 5 w6 R6 (Nat.le_of_lt R6.lt)
   rw [show (if c3 = 0 then 5 else c3) = c4 from HF] at FL
   have FL := Lib.hid FL
   clear hy HF R6
   go_upto_region 4 with fail
   rename_i aK
   refine wp_region_seq ?_
   refine smv (.int .u8 (y : Int)) rfl rfl rfl ?_
   simp only [AP]
   refine svl (.bool true) (.inl ⟨by rfl, fun w' _ => by (go_simp; try omega)⟩) ?_
   simp only [AP]
   refine wpSeq_nil ?_
   refine (by assumption : ∀ (a : Act) (w : World), _ → _) _ _ ?_
   go_upto_region 5 with fail
   rename_i aK
   refine wp_region_seq ?_
   refine svl (.pointer (some ⟨g4, 0, none⟩)) (.inl ⟨by rfl, fun w' _ => by go_simp⟩) ?_
   simp only [AP]
   refine wpSeq_yield (S := fun w' => w' = w6) (v := .pointer (some ⟨g, 0, none⟩)) (Or.inl ⟨by rfl, fun w' hw' => by (rw [hw']; go_simp)⟩) rfl ?_
   simp only [AP]
   refine wpSeq_wp rfl ?_
   unfold Oper.wp execOp
   go_simp
   refine FL.out.mono ?_
   rintro _ w7 ⟨⟨v22, rfl⟩, R7, GG⟩
   replace K5 : Blk w7 g4 59 #[.pointer (some ⟨g, 0, none⟩)] := (GG.block _ K5.lt (fun e => by have := Option.some.inj e; have := NG4.out; omega)).trans K5
   replace KR5 : Blk w7 W.heap.size 25 Z := (GG.block _ KR5.lt (fun e => by have := Option.some.inj e; have := NG.out; omega)).trans KR5
   replace KA5 : Blk w7 g5 25 _ := (GG.block _ KA5.lt (fun e => by have := Option.some.inj e; have := NG5.out; omega)).trans KA5
   have ng : W.heap.size ≤ g := Nat.le_of_lt NG.out
   replace b5 := below_gb b5 GG ng b5.size
   clear ng GG
   clear FL q4
   go_simp
   refine wpSeq_nil ?_
   go_wp2
   exact AK _ _ _ _ _ w7 R7 K5 KR5 KA5 b5
  ·
   rw [if_neg hy] at HF
   subst HF
   have yi : ¬ (1 : Int) < (y : Int) := by omega
   clear hy q4
   go_upto_region 4 with fail
   rename_i aK
   refine wp_region_seq ?_
   refine smv (.int .u8 (y : Int)) rfl rfl rfl ?_
   simp only [AP]
   refine svl (.bool false) (.inl ⟨by rfl, fun w' _ => by (go_simp; try omega)⟩) ?_
   simp only [AP]
   refine wpSeq_nil ?_
   refine (by assumption : ∀ (a : Act) (w : World), _ → _) _ _ ?_
   go_wp2
   exact AK _ _ _ _ _ w6 R6 K5 KR5 KA5 b5
 clear a2 BC WC
 refine wp_region_S (S := fun w' => Blk w' g4 59 #[.pointer (some ⟨g, 0, none⟩)]) (by kernel_rfl) ?_
 generalize w4.drew = w5 at *
 have hS := K4
 refine wpAnyS_takeL 0 (v := .agg #[.pointer (some ⟨g, 0, none⟩)]) rfl (by kernel_rfl) (by kernel_rfl) (by kernel_rfl) (fun _ _ _ H => H) (show YieldsIf _ _ _ _ (.agg #[.pointer (some ⟨g, 0, none⟩)]) _ from yieldsIf_row_wanted (S := fun w' => Blk w' g4 59 #[.pointer (some ⟨g, 0, none⟩)]) rfl 59 _ rfl g4 rfl 59 _ _ (fun _ h => h) Tryz.underlying59 rfl info_reader) hS ?_
 simp only [AP]
 refine wpAnyS_takeL 2 (v := .agg #[.pointer (some ⟨g, 0, none⟩)]) rfl (by kernel_rfl) (by kernel_rfl) (by kernel_rfl) (fun _ _ _ H => H) (show YieldsIf _ _ _ _ (.agg #[.pointer (some ⟨g, 0, none⟩)]) _ from yieldsIf_row_wanted (S := fun w' => Blk w' g4 59 #[.pointer (some ⟨g, 0, none⟩)]) rfl 59 _ rfl g4 rfl 59 _ _ (fun _ h => h) Tryz.underlying59 rfl info_reader) hS ?_
 simp only [AP]
 clear hS
 refine gsteps 1 5 rfl rfl rfl rfl (by kernel_rfl) ?_ ?_
 ·
  skip
  unfold Oper.wp execOp
  go_simp
  refine (KC.out g w5 _ R2).mono ?_
  rintro _ w6 ⟨rfl, R2, GG⟩
  replace K4 : Blk w6 g4 59 #[.pointer (some ⟨g, 0, none⟩)] := (GG.block _ K4.lt (fun e => by have := Option.some.inj e; have := NG4.out; omega)).trans K4
  replace KR : Blk w6 W.heap.size 25 Z := (GG.block _ KR.lt (fun e => by have := Option.some.inj e; have := NG.out; omega)).trans KR
  have ng : W.heap.size ≤ g := Nat.le_of_lt NG.out
  replace b0 := below_gb b0 GG ng b0.size
  clear ng
  clear GG
  refine ⟨K4, ?_⟩
  refine gsteps 3 5 rfl rfl rfl rfl (by kernel_rfl) ?_ ?_
  ·
   skip
   unfold Oper.wp execOp
   go_simp
   refine (KD.out g w6 _ R2).mono ?_
   rintro _ w7 ⟨rfl, R2, GG⟩
   replace K4 : Blk w7 g4 59 #[.pointer (some ⟨g, 0, none⟩)] := (GG.block _ K4.lt (fun e => by have := Option.some.inj e; have := NG4.out; omega)).trans K4
   replace KR : Blk w7 W.heap.size 25 Z := (GG.block _ KR.lt (fun e => by have := Option.some.inj e; have := NG.out; omega)).trans KR
   have ng : W.heap.size ≤ g := Nat.le_of_lt NG.out
   replace b0 := below_gb b0 GG ng b0.size
   clear ng
   clear GG
   refine ⟨K4, ?_⟩
   have hS := K4
   refine wpAnyS_takeL 4 (v := .agg (ansV (padN 32 T1.1) (padN 32 T2.1) false)) rfl (by kernel_rfl) (by kernel_rfl) (by kernel_rfl) (fun _ _ _ H => H) (yieldsIf_of_run rfl _ _ rfl (by simp only [List.map_toArray, List.map_cons, List.map_nil]; exact ZP.out)) hS ?_
   simp only [AP]
   clear hS
   refine gstep 5 rfl rfl (by kernel_rfl) ?_
   unfold Oper.wp execOp
   go_simp
   generalize hW : World.alloc w7 _ = w8
   obtain ⟨Z5, hZ5, KC5, bb⟩ : ∃ Z5 : Array Value, Z5.size = 65 ∧ Blk w8 w7.heap.size 25 Z5 ∧ Below w7.heap.size w7 w8 := by
    rw [← hW]
    exact ⟨_, rfl, Blk.new _ _ _, (Below.refl _ _).alloc (Nat.le_refl _) _⟩
   clear hW
   have NG5 := Lib.hid (show g < w7.heap.size ∧ g4 < w7.heap.size from ⟨R2.lt, K4.lt⟩)
   replace K4 := K4.below' bb
   replace KR := KR.below' bb
   replace R2 := R2.below bb
   replace b0 := b0.trans (bb.mono b0.size)
   obtain ⟨g5, hg5⟩ : ∃ g, w7.heap.size = g := ⟨_, rfl⟩
   rw [hg5] at KC5 NG5 ⊢
   clear hg5 bb
   refine ⟨K4, ?_⟩
   have czz := info_ansV (ansV_size LK.out.1 LK.out.2 false)
   have czs := ansV_size LK.out.1 LK.out.2 false
   refine gstep 6 rfl rfl (by kernel_rfl) (wp_store_row 25 _ _ rfl g5 (ansV (padN 32 T1.1) (padN 32 T2.1) false) rfl rfl _ _ KC5 czz (by rw [hZ5, czs]) (ansV_one _ _ _) ⟨?_, ?_⟩)
   · exact K4.rowFar (by have := NG5.out; omega) _
   simp only [Act.put]
   refine wpAnyS_done (by kernel_rfl) ?_ _
   have g5w : W.heap.size ≤ g5 := by have := NG4.out; have := NG5.out; omega
   exact AK2 g5 _ NG5.out.1 NG5.out.2 (R2.other (grown_one w8 g5 _) NG5.out.1) (K4.rowFar (by have := NG5.out; omega) _) (KR.rowFar (by have := NG4.out; have := NG5.out; omega) _) (KC5.row _) (below_setRow b0 g5w _)
  ·
   skip
   unfold Oper.wp execOp
   go_simp
   generalize hW : World.alloc w6 _ = w9
   obtain ⟨Z5, hZ5, KC5, bb⟩ : ∃ Z5 : Array Value, Z5.size = 65 ∧ Blk w9 w6.heap.size 25 Z5 ∧ Below w6.heap.size w6 w9 := by
    rw [← hW]
    exact ⟨_, rfl, Blk.new _ _ _, (Below.refl _ _).alloc (Nat.le_refl _) _⟩
   clear hW
   have NG5 := Lib.hid (show g < w6.heap.size ∧ g4 < w6.heap.size from ⟨R2.lt, K4.lt⟩)
   replace K4 := K4.below' bb
   replace KR := KR.below' bb
   replace R2 := R2.below bb
   replace b0 := b0.trans (bb.mono b0.size)
   obtain ⟨g5, hg5⟩ : ∃ g, w6.heap.size = g := ⟨_, rfl⟩
   rw [hg5] at KC5 NG5 ⊢
   clear hg5 bb
   refine ⟨K4, ?_⟩
   refine gstep 3 rfl rfl (by kernel_rfl) ?_
   unfold Oper.wp execOp
   go_simp
   refine (KD.out g w9 _ R2).mono ?_
   rintro _ w10 ⟨rfl, R2, GG⟩
   replace K4 : Blk w10 g4 59 #[.pointer (some ⟨g, 0, none⟩)] := (GG.block _ K4.lt (fun e => by have := Option.some.inj e; have := NG4.out; omega)).trans K4
   replace KR : Blk w10 W.heap.size 25 Z := (GG.block _ KR.lt (fun e => by have := Option.some.inj e; have := NG.out; omega)).trans KR
   have ng : W.heap.size ≤ g := Nat.le_of_lt NG.out
   replace b0 := below_gb b0 GG ng b0.size
   clear ng
   replace KC5 : Blk w10 g5 25 Z5 := (GG.block _ KC5.lt (fun e => by have := Option.some.inj e; have := NG5.out; omega)).trans KC5
   clear GG
   refine ⟨K4, ?_⟩
   have hS := K4
   refine wpAnyS_takeL 4 (v := .agg (ansV (padN 32 T1.1) (padN 32 T2.1) false)) rfl (by kernel_rfl) (by kernel_rfl) (by kernel_rfl) (fun _ _ _ H => H) (yieldsIf_of_run rfl _ _ rfl (by simp only [List.map_toArray, List.map_cons, List.map_nil]; exact ZP.out)) hS ?_
   simp only [AP]
   clear hS
   have czz := info_ansV (ansV_size LK.out.1 LK.out.2 false)
   have czs := ansV_size LK.out.1 LK.out.2 false
   refine gstep 6 rfl rfl (by kernel_rfl) (wp_store_row 25 _ _ rfl g5 (ansV (padN 32 T1.1) (padN 32 T2.1) false) rfl rfl _ _ KC5 czz (by rw [hZ5, czs]) (ansV_one _ _ _) ⟨?_, ?_⟩)
   · exact K4.rowFar (by have := NG5.out; omega) _
   simp only [Act.put]
   refine wpAnyS_done (by kernel_rfl) ?_ _
   have g5w : W.heap.size ≤ g5 := by have := NG4.out; have := NG5.out; omega
   exact AK2 g5 _ NG5.out.1 NG5.out.2 (R2.other (grown_one w10 g5 _) NG5.out.1) (K4.rowFar (by have := NG5.out; omega) _) (KR.rowFar (by have := NG4.out; have := NG5.out; omega) _) (KC5.row _) (below_setRow b0 g5w _)
 ·
  skip
  unfold Oper.wp execOp
  go_simp
  generalize hW : World.alloc w5 _ = w11
  obtain ⟨Z5, hZ5, KC5, bb⟩ : ∃ Z5 : Array Value, Z5.size = 65 ∧ Blk w11 w5.heap.size 25 Z5 ∧ Below w5.heap.size w5 w11 := by
   rw [← hW]
   exact ⟨_, rfl, Blk.new _ _ _, (Below.refl _ _).alloc (Nat.le_refl _) _⟩
  clear hW
  have NG5 := Lib.hid (show g < w5.heap.size ∧ g4 < w5.heap.size from ⟨R2.lt, K4.lt⟩)
  replace K4 := K4.below' bb
  replace KR := KR.below' bb
  replace R2 := R2.below bb
  replace b0 := b0.trans (bb.mono b0.size)
  obtain ⟨g5, hg5⟩ : ∃ g, w5.heap.size = g := ⟨_, rfl⟩
  rw [hg5] at KC5 NG5 ⊢
  clear hg5 bb
  refine ⟨K4, ?_⟩
  refine gstep 1 rfl rfl (by kernel_rfl) ?_
  unfold Oper.wp execOp
  go_simp
  refine (KC.out g w11 _ R2).mono ?_
  rintro _ w12 ⟨rfl, R2, GG⟩
  replace K4 : Blk w12 g4 59 #[.pointer (some ⟨g, 0, none⟩)] := (GG.block _ K4.lt (fun e => by have := Option.some.inj e; have := NG4.out; omega)).trans K4
  replace KR : Blk w12 W.heap.size 25 Z := (GG.block _ KR.lt (fun e => by have := Option.some.inj e; have := NG.out; omega)).trans KR
  have ng : W.heap.size ≤ g := Nat.le_of_lt NG.out
  replace b0 := below_gb b0 GG ng b0.size
  clear ng
  replace KC5 : Blk w12 g5 25 Z5 := (GG.block _ KC5.lt (fun e => by have := Option.some.inj e; have := NG5.out; omega)).trans KC5
  clear GG
  refine ⟨K4, ?_⟩
  refine gstep 3 rfl rfl (by kernel_rfl) ?_
  unfold Oper.wp execOp
  go_simp
  refine (KD.out g w12 _ R2).mono ?_
  rintro _ w13 ⟨rfl, R2, GG⟩
  replace K4 : Blk w13 g4 59 #[.pointer (some ⟨g, 0, none⟩)] := (GG.block _ K4.lt (fun e => by have := Option.some.inj e; have := NG4.out; omega)).trans K4
  replace KR : Blk w13 W.heap.size 25 Z := (GG.block _ KR.lt (fun e => by have := Option.some.inj e; have := NG.out; omega)).trans KR
  have ng : W.heap.size ≤ g := Nat.le_of_lt NG.out
  replace b0 := below_gb b0 GG ng b0.size
  clear ng
  replace KC5 : Blk w13 g5 25 Z5 := (GG.block _ KC5.lt (fun e => by have := Option.some.inj e; have := NG5.out; omega)).trans KC5
  clear GG
  refine ⟨K4, ?_⟩
  have hS := K4
  refine wpAnyS_takeL 4 (v := .agg (ansV (padN 32 T1.1) (padN 32 T2.1) false)) rfl (by kernel_rfl) (by kernel_rfl) (by kernel_rfl) (fun _ _ _ H => H) (yieldsIf_of_run rfl _ _ rfl (by simp only [List.map_toArray, List.map_cons, List.map_nil]; exact ZP.out)) hS ?_
  simp only [AP]
  clear hS
  have czz := info_ansV (ansV_size LK.out.1 LK.out.2 false)
  have czs := ansV_size LK.out.1 LK.out.2 false
  refine gstep 6 rfl rfl (by kernel_rfl) (wp_store_row 25 _ _ rfl g5 (ansV (padN 32 T1.1) (padN 32 T2.1) false) rfl rfl _ _ KC5 czz (by rw [hZ5, czs]) (ansV_one _ _ _) ⟨?_, ?_⟩)
  · exact K4.rowFar (by have := NG5.out; omega) _
  simp only [Act.put]
  refine wpAnyS_done (by kernel_rfl) ?_ _
  have g5w : W.heap.size ≤ g5 := by have := NG4.out; have := NG5.out; omega
  exact AK2 g5 _ NG5.out.1 NG5.out.2 (R2.other (grown_one w13 g5 _) NG5.out.1) (K4.rowFar (by have := NG5.out; omega) _) (KR.rowFar (by have := NG4.out; have := NG5.out; omega) _) (KC5.row _) (below_setRow b0 g5w _)
end Go.Proofs.YtegbnadnodlalaaGreatDoor
