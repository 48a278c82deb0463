/- The reference's Answer (printed by gen14/wk.py). Answers, parameters held against each other. -/
import Derived.Test.YtegbnadnodlalaaGreatDoorWj
import Derived.Test.YtegbnadnodlalaaGreatDoorWe
import Derived.Test.YtegbnadnodlalaaGreatDoorE7b0Wa
namespace Go.Proofs.YtegbnadnodlalaaGreatDoor
open Go.RowKit
theorem ans_put0 {w : World} {g : Nat} {r s : List Nat} {q : Bool} (h : Blk w g 25 (ansV r s q)) (k : List Nat) (hk : k.length = r.length) : Blk (w.setCells g 0 (vals k)) g 25 (ansV k s q) := by
 have e := blk_setV (vals k) (ansL r s q) 0 w h
 rwa [show setV (ansL r s q) 0 (vals k) = ansL k s q from setV_split (vals k) [] (vals r) _ 0 rfl (by rw [vals_length, vals_length, hk])] at e
theorem ans_put1 {w : World} {g : Nat} {r s : List Nat} {q : Bool} (hr : r.length = 32) (h : Blk w g 25 (ansV r s q)) (k : List Nat) (hk : k.length = s.length) : Blk (w.setCells g 32 (vals k)) g 25 (ansV r k q) := by
 have e := blk_setV (vals k) (ansL r s q) 32 w h
 rwa [show setV (ansL r s q) 32 (vals k) = ansL r k q from setV_split (vals k) (vals r) (vals s) _ 32 (by rw [vals_length, hr]) (by rw [vals_length, vals_length, hk])] at e
set_option maxHeartbeats 8000000 in
set_option maxRecDepth 100000 in
theorem rreadanswer_m (l : List Nat) (q : Option Addr) (n cc : Nat) (bb : Bytes l) (hn : n ≤ 1000000) (W : World) (hs : SB W (.slice q n cc) l) :
  Calls Tryz.prog 10 #[.slice q n cc] W fun e w' => e = .returned (.tuple #[.agg (ansV (readA l).2.1 (readA l).2.2.1 (readA l).2.2.2), .int .i64 ((readA l).1 : Int)]) ∧ Below W.heap.size W w' := by
 have ln := hs.len.1
 obtain ⟨T1, T2, y, l3, c3, c4, f, H⟩ := RA.mk' l
 have KC := fun (g : Nat) (w : World) (p : Option Addr) (h : RX W.heap.size g w p l 0) => rkey_m W.heap.size g p l 0 w h
 rw [H.h1] at KC
 have KD := fun (g : Nat) (w : World) (p : Option Addr) (h : RX W.heap.size g w p T1.2.1 T1.2.2) => rkey_m W.heap.size g p T1.2.1 T1.2.2 w h
 rw [H.h2] at KD
 have BC := fun (g : Nat) (w : World) (p : Option Addr) (h : RX W.heap.size g w p T2.2.1 T2.2.2) => rbyte_m W.heap.size g p T2.2.1 T2.2.2 w h
 rw [H.hy, H.h3, H.hc] at BC
 have lk : (padN 32 T1.1).length = 32 := padN_length (by rw [← H.h1]; exact tookS_len _ _ _)
 have ls : (padN 32 T2.1).length = 32 := padN_length (by rw [← H.h2]; exact tookS_len _ _ _)
 have WC := fun (g : Nat) (w : World) (p : Option Addr) (h : RX W.heap.size g w p l3 c4) => rend_m W.heap.size g p l3 c4 w h
 rw [H.hf] at WC
 have HX := Lib.hid H
 have BC := Lib.hid BC
 have KC := Lib.hid KC
 have KD := Lib.hid KD
 have WC := Lib.hid WC
 have LK := Lib.hid (And.intro lk ls)
 obtain ⟨RS, hRS⟩ : ∃ RS, Value.tuple #[.agg (ansV (readA l).2.1 (readA l).2.2.1 (readA l).2.2.2), .int .i64 ((readA l).1 : Int)] = RS := ⟨_, rfl⟩
 rw [hRS]
 have HRS := Lib.hid hRS
 have R0 := Lib.hid (fun (g : Nat) (w : World) (hg : W.heap.size ≤ g) (b : Below W.heap.size W w) (K : Blk w g 70 #[.slice q n cc, .int .i64 0]) => show RX W.heap.size g w (some ⟨g, 0, none⟩) l 0 from ⟨⟨q, cc, rfl, ln ▸ K, ln ▸ hs.below b, hs.lo⟩, hg, by omega⟩)
 clear hs bb hn H lk ls hRS ln
 have zs : (ansV z32 z32 false).size = 65 := ansV_size z32_length z32_length false
 have zi := info_ansV zs
 go_enter Tryz.func10, Tryz.ntmps10
 go_upto_region 0 with fail
 rename_i aK
 refine wp_region_seq ?_
 refine wpSeq_wp rfl ?_
 unfold Oper.wp execOp
 go_simp
 refine sas (.int .i64 0) rfl rfl rfl ?_
 simp only [AP]
 refine wpSeq_nil ?_
 refine aK _ _ ?_
 clear aK
 generalize hW : World.alloc W _ = w1
 obtain ⟨Z, hZ, KR, b0⟩ : ∃ Z : Array Value, Z.size = 65 ∧ Blk w1 W.heap.size 25 Z ∧ Below W.heap.size W w1 := by
  rw [← hW]
  exact ⟨_, rfl, Blk.new _ _ _, (Below.refl _ _).alloc (Nat.le_refl _) _⟩
 clear hW
 go_upto_region 1 with fail
 rename_i aK
 refine wp_region_seq ?_
 refine smv (.slice q n cc) rfl rfl rfl ?_
 simp only [AP]
 refine svl (.agg #[.slice q n cc, .int .i64 0]) (.inl ⟨by rfl, fun w' _ => by (go_simp)⟩) ?_
 simp only [AP]
 refine wpSeq_wp rfl ?_
 unfold Oper.wp execOp
 go_simp
 have KG := Blk.new w1 70 #[.slice q n cc, .int .i64 0]
 have b3 := (Below.refl w1.heap.size w1).alloc (Nat.le_refl _) (.cells #[.slice q n cc, .int .i64 0] 70)
 generalize World.alloc w1 _ = w2 at *
 have NG := Lib.hid KR.lt
 replace KR := KR.below' b3
 replace b0 := b0.trans (b3.mono b0.size)
 clear b3
 obtain ⟨g, hg⟩ : ∃ g, w1.heap.size = g := ⟨_, rfl⟩
 rw [hg] at KG NG ⊢
 clear hg
 have R2 := R0.out g w2 (Nat.le_of_lt NG.out) b0 KG
 clear R0 KG
 refine sas (.pointer (some ⟨g, 0, none⟩)) rfl rfl rfl ?_
 simp only [AP]
 refine wpSeq_nil ?_
 refine (by assumption : ∀ (a : Act) (w : World), _ → _) _ _ ?_
 go_upto_region 2 with fail
 rename_i aK
 refine wp_region_seq ?_
 refine wpSeq_yield (S := fun _ => True) (v := .agg (ansV z32 z32 false)) (Or.inl ⟨rfl, fun w' _ => by simp only [execOp, Sem.run_bind, Array.map_empty, run_ans0 w', Result.andThen_ok, Sem.run_pure]⟩) trivial ?_
 simp only [AP]
 refine wpSeq_wp rfl ?_
 unfold Oper.wp execOp
 go_simp
 generalize hW : World.alloc w2 _ = w3
 obtain ⟨Z5, hZ5, K5, b3⟩ : ∃ Z5 : Array Value, Z5.size = 65 ∧ Blk w3 w2.heap.size 25 Z5 ∧ Below w2.heap.size w2 w3 := by
  rw [← hW]
  exact ⟨_, rfl, Blk.new _ _ _, (Below.refl _ _).alloc (Nat.le_refl _) _⟩
 clear hW
 have NG5 := Lib.hid (show W.heap.size < w2.heap.size ∧ g < w2.heap.size from ⟨KR.lt, R2.lt⟩)
 replace KR := KR.below' b3
 replace R2 := R2.below b3
 replace b0 := b0.trans (b3.mono b0.size)
 clear b3
 obtain ⟨g5, hg5⟩ : ∃ g, w2.heap.size = g := ⟨_, rfl⟩
 rw [hg5] at K5 NG5 ⊢
 clear hg5
 refine wpSeq_store_row rfl 25 _ _ rfl g5 (ansV z32 z32 false) rfl rfl _ _ K5 zi (by rw [hZ5, zs]) (ansV_one _ _ _) ?_
 simp only [Act.put]
 refine wpSeq_nil ?_
 refine (by assumption : ∀ (a : Act) (w : World), _ → _) _ _ ?_
 have G5 := grown_one w3 g5 (ansV z32 z32 false)
 replace R2 := R2.other G5 (by have := NG5.out; omega) (by have := NG5.out; omega)
 replace K5 := K5.row (ansV z32 z32 false)
 replace KR : Blk (w3.setRow g5 (ansV z32 z32 false)) W.heap.size 25 Z := KR.rowFar (by have := NG5.out; omega) _
 have gg5 : W.heap.size ≤ g5 := by have := NG5.out; omega
 replace b0 := below_setRow b0 gg5 (ansV z32 z32 false)
 generalize World.setRow w3 g5 _ = w4 at *
 clear G5 gg5
 go_upto_region 3 with fail
 rename_i aK
 refine wp_region_seq ?_
 refine smv (.pointer (some ⟨g, 0, none⟩)) rfl rfl rfl ?_
 simp only [AP]
 refine wpSeq_wp rfl ?_
 unfold Oper.wp execOp
 go_simp
 refine (KC.out g w4 _ R2).mono ?_
 rintro _ w5 ⟨rfl, R3, GG⟩
 replace KR : Blk w5 W.heap.size 25 Z := (GG.block _ KR.lt (fun e => by have := Option.some.inj e; have := NG.out; omega)).trans KR
 replace K5 : Blk w5 g5 25 _ := (GG.block _ K5.lt (fun e => by have := Option.some.inj e; have := NG5.out; omega)).trans K5
 have ng : W.heap.size ≤ g := Nat.le_of_lt NG.out
 replace b0 := below_gb b0 GG ng b0.size
 clear ng GG
 clear KC R2
 go_simp
 refine svl (.pointer (some ⟨g5, 0, none⟩)) (.inl ⟨by rfl, fun w' _ => by (go_simp)⟩) ?_
 simp only [AP]
 refine wpSeq_store_mid rfl 23 _ _ rfl g5 0 (Iv .u8 (NI (padN 32 T1.1))) rfl rfl (row_there K5 0 _ (by rw [ansV_size z32_length z32_length, Iv_size, NI_length, LK.out.1]; decide)) (info_key _ (by rw [NI_length]; exact LK.out.1)) (u8_ones _) ?_
 simp only [Act.put]
 rw [show (Iv .u8 (NI (padN 32 T1.1))).toList = vals (padN 32 T1.1) by rw [vals_iv]]
 have gg : W.heap.size ≤ g5 := by have := NG5.out; omega
 have GG : w5.grownBy (w5.setCells g5 0 (vals (padN 32 T1.1))) (some g5) := gb_cells _ _ _ _
 replace R3 := R3.other GG (by have := NG5.out; omega) (by have := NG5.out; omega)
 replace K5 := ans_put0 K5 (padN 32 T1.1) (by rw [LK.out.1, z32_length])
 replace KR : Blk (w5.setCells g5 0 (vals (padN 32 T1.1))) W.heap.size 25 Z := (GG.block _ KR.lt (fun e => by have := Option.some.inj e; have := NG5.out; omega)).trans KR
 replace b0 := below_gb b0 GG gg b0.size
 clear GG gg
 generalize World.setCells w5 _ _ _ = w6 at *
 refine wpSeq_nil ?_
 refine (by assumption : ∀ (a : Act) (w : World), _ → _) _ _ ?_
 go_upto_region 4 with fail
 rename_i aK
 refine wp_region_seq ?_
 refine smv (.pointer (some ⟨g, 0, none⟩)) rfl rfl rfl ?_
 simp only [AP]
 refine wpSeq_wp rfl ?_
 unfold Oper.wp execOp
 go_simp
 refine (KD.out g w6 _ R3).mono ?_
 rintro _ w7 ⟨rfl, R4, GG⟩
 replace KR : Blk w7 W.heap.size 25 Z := (GG.block _ KR.lt (fun e => by have := Option.some.inj e; have := NG.out; omega)).trans KR
 replace K5 : Blk w7 g5 25 _ := (GG.block _ K5.lt (fun e => by have := Option.some.inj e; have := NG5.out; omega)).trans K5
 have ng : W.heap.size ≤ g := Nat.le_of_lt NG.out
 replace b0 := below_gb b0 GG ng b0.size
 clear ng GG
 clear KD R3
 go_simp
 refine svl (.pointer (some ⟨g5, 32, none⟩)) (.inl ⟨by rfl, fun w' _ => by (go_simp)⟩) ?_
 simp only [AP]
 refine wpSeq_store_mid rfl 23 _ _ rfl g5 32 (Iv .u8 (NI (padN 32 T2.1))) rfl rfl (row_there K5 32 _ (by rw [ansV_size LK.out.1 z32_length, Iv_size, NI_length, LK.out.2]; decide)) (info_key _ (by rw [NI_length]; exact LK.out.2)) (u8_ones _) ?_
 simp only [Act.put]
 rw [show (Iv .u8 (NI (padN 32 T2.1))).toList = vals (padN 32 T2.1) by rw [vals_iv]]
 have gg : W.heap.size ≤ g5 := by have := NG5.out; omega
 have GG : w7.grownBy (w7.setCells g5 32 (vals (padN 32 T2.1))) (some g5) := gb_cells _ _ _ _
 replace R4 := R4.other GG (by have := NG5.out; omega) (by have := NG5.out; omega)
 replace K5 := ans_put1 LK.out.1 K5 (padN 32 T2.1) (by rw [LK.out.2, z32_length])
 replace KR : Blk (w7.setCells g5 32 (vals (padN 32 T2.1))) W.heap.size 25 Z := (GG.block _ KR.lt (fun e => by have := Option.some.inj e; have := NG5.out; omega)).trans KR
 replace b0 := below_gb b0 GG gg b0.size
 clear GG gg
 generalize World.setCells w7 _ _ _ = w8 at *
 refine wpSeq_nil ?_
 refine (by assumption : ∀ (a : Act) (w : World), _ → _) _ _ ?_
 go_upto_region 5 with fail
 rename_i aK
 refine wp_region_seq ?_
 refine smv (.pointer (some ⟨g, 0, none⟩)) rfl rfl rfl ?_
 simp only [AP]
 refine wpSeq_wp rfl ?_
 unfold Oper.wp execOp
 go_simp
 refine (BC.out g w8 _ R4).mono ?_
 rintro _ w9 ⟨rfl, R5, GG⟩
 replace KR : Blk w9 W.heap.size 25 Z := (GG.block _ KR.lt (fun e => by have := Option.some.inj e; have := NG.out; omega)).trans KR
 replace K5 : Blk w9 g5 25 _ := (GG.block _ K5.lt (fun e => by have := Option.some.inj e; have := NG5.out; omega)).trans K5
 have ng : W.heap.size ≤ g := Nat.le_of_lt NG.out
 replace b0 := below_gb b0 GG ng b0.size
 clear ng GG
 clear BC R4
 go_simp
 refine sas (.int .u8 (y : Int)) rfl rfl rfl ?_
 simp only [AP]
 refine wpSeq_nil ?_
 refine (by assumption : ∀ (a : Act) (w : World), _ → _) _ _ ?_
 go_upto_region 6 with fail
 rename_i KJ aJ K3 a3
 have AK : ∀ (u20 u21 u22 u23 : Value) (w' : World), RX W.heap.size g w' (some ⟨g, 0, none⟩) l3 c4 → Blk w' W.heap.size 25 Z → Blk w' g5 25 (ansV (padN 32 T1.1) (padN 32 T2.1) false) → Below W.heap.size W w' → KJ { tmps := #[.slice q n cc, undef, .pointer (some ⟨W.heap.size, 0, none⟩), .int .i64 0, .pointer (some ⟨g, 0, none⟩), .pointer (some ⟨g5, 0, none⟩), .int .u8 (y : Int), undef, .slice q n cc, .agg #[.slice q n cc, .int .i64 0], .pointer (some ⟨g, 0, none⟩), .agg (ansV z32 z32 false), .pointer (some ⟨g, 0, none⟩), .agg (Iv .u8 (NI (padN 32 T1.1))), .pointer (some ⟨g5, 0, none⟩), .pointer (some ⟨g, 0, none⟩), .agg (Iv .u8 (NI (padN 32 T2.1))), .pointer (some ⟨g5, 32, none⟩), .pointer (some ⟨g, 0, none⟩), .int .u8 (y : Int), u20, u21, u22, u23, undef, undef, undef, undef, undef, undef, undef, undef, undef, undef], defers := [] } w' := by
  intro u20 u21 u22 u23 w5 R3 KR K5 b0
  refine aJ _ _ ?_
  clear aJ a3
  have c5 : w5.cell? ⟨g5, 64, none⟩ = some (.bool false) := by
   rw [K5.cell, ansV, ansL, List.getElem?_toArray, List.getElem?_append_right (by rw [vals_length, LK.out.1]; decide), List.getElem?_append_right (by rw [vals_length, vals_length, LK.out.1, LK.out.2]; decide), vals_length, vals_length, LK.out.1, LK.out.2]
   rfl
  have f5 := K5.frozen 64
  by_cases y1 : y = 1
  ·
   have yi : (y : Int) = 1 := by omega
   have yq : (y == 1) = true := beq_iff_eq.2 y1
   have HQ := HX.out.ans
   rw [yq] at HQ
   replace HQ := fun XV h => HRS.out.symm.trans (HQ XV h).symm
   have HQ := Lib.hid HQ
   clear y1 yq HX HRS
   go_upto_region 8 with fail
   rename_i aK
   refine wp_region_seq ?_
   refine smv (.int .u8 (y : Int)) rfl rfl rfl ?_
   simp only [AP]
   refine svl (.bool true) (.inl ⟨by rfl, fun w' _ => by (go_simp; try omega)⟩) ?_
   simp only [AP]
   refine svl (.pointer (some ⟨g5, 64, none⟩)) (.inl ⟨by rfl, fun w' _ => by (go_simp)⟩) ?_
   simp only [AP]
   refine wpSeq_wp rfl ?_
   unfold Oper.wp execOp
   go_simp
   refine wpSeq_nil ?_
   refine (by assumption : ∀ (a : Act) (w : World), _ → _) _ _ ?_
   replace K5 := K5.set 64 (.bool true)
   rw [ans_set LK.out.1 LK.out.2] at K5
   replace KR : Blk (w5.setCell ⟨g5, 64, none⟩ (.bool true)) W.heap.size 25 Z := Blk.far (p := ⟨g5, 64, none⟩) KR (by have := NG5.out; show W.heap.size ≠ g5; omega) _
   replace R3 := R3.other (gb_set2 w5 g5 64 (.bool true)) (by have := NG5.out; omega) (by have := NG5.out; omega)
   have g5w : W.heap.size ≤ g5 := by have := NG5.out; omega
   replace b0 := b0.setCell (p := ⟨g5, 64, none⟩) g5w (.bool true)
   clear c5 f5 g5w
   generalize World.setCell w5 _ _ = w50 at *
   have cs := ansV_size LK.out.1 LK.out.2 true
   have cz := info_ansV cs
   go_upto_region 9 with fail
   rename_i aK
   refine wp_region_seq ?_
   refine smv (.pointer (some ⟨g, 0, none⟩)) rfl rfl rfl ?_
   simp only [AP]
   refine wpSeq_wp rfl ?_
   unfold Oper.wp execOp
   go_simp
   refine (WC.out g w50 _ R3).mono ?_
   rintro _ w6 ⟨rfl, GG⟩
   replace KR : Blk w6 W.heap.size 25 Z := (GG.block _ KR.lt (fun e => by have := Option.some.inj e; have := NG.out; omega)).trans KR
   replace K5 : Blk w6 g5 25 _ := (GG.block _ K5.lt (fun e => by have := Option.some.inj e; have := NG5.out; omega)).trans K5
   have ng : W.heap.size ≤ g := Nat.le_of_lt NG.out
   replace b0 := below_gb b0 GG ng b0.size
   clear ng GG WC R3
   go_simp
   refine sas (.int .i64 (f : Int)) rfl rfl rfl ?_
   simp only [AP]
   refine wpSeq_nil ?_
   refine (by assumption : ∀ (a : Act) (w : World), _ → _) _ _ ?_
   by_cases f0 : f = 0
   ·
    have ha := HQ.out _ (if_pos f0)
    rw [f0] at ha
    replace ha := Lib.hid ha
    subst f0
    clear HQ
    go_upto_region 10 with fail
    rename_i aK
    refine wp_region_seq ?_
    refine smv (.int .i64 0) rfl rfl rfl ?_
    simp only [AP]
    refine svl (.bool false) (.inl ⟨by rfl, fun w' _ => by (go_simp; try omega)⟩) ?_
    simp only [AP]
    refine wpSeq_nil ?_
    refine (by assumption : ∀ (a : Act) (w : World), _ → _) _ _ ?_
    go_upto_region 12 with fail
    rename_i aK
    refine wp_region_seq ?_
    refine wpSeq_yield (S := fun w' => w' = w6) (show YieldsIf _ _ _ _ (.agg (ansV (padN 32 T1.1) (padN 32 T2.1) true)) _ from yieldsIf_row_wanted (S := fun w' => w' = w6) rfl 25 _ rfl g5 rfl 25 _ _ (fun _ h => h ▸ K5) Tryz.underlying25 rfl cz) rfl ?_
    simp only [AP]
    refine wpSeq_store_row rfl 25 _ _ rfl W.heap.size (ansV (padN 32 T1.1) (padN 32 T2.1) true) rfl rfl _ _ KR cz (by rw [hZ, cs]) (ansV_one _ _ _) ?_
    simp only [Act.put]
    refine sas (.int .i64 0) rfl rfl rfl ?_
    simp only [AP]
    refine wpSeq_nil ?_
    refine (by assumption : ∀ (a : Act) (w : World), _ → _) _ _ ?_
    go_wp2
    refine bodyPost_ret (results_cell_tmp rfl _ _ _ 25 _ (0, 0) _ _ rfl (Blk.row KR _) Tryz.underlying25 rfl cz rfl) rfl ?_
    exact ⟨by first | (rw [ha.out]; rfl) | rfl, below_setRow b0 (Nat.le_refl _) _⟩
   ·
    have ha := HQ.out _ (if_neg f0)
    replace ha := Lib.hid ha
    have f1 : ¬ (f : Int) = 0 := by omega
    clear HQ f0
    go_upto_region 10 with fail
    rename_i aK
    refine wp_region_seq ?_
    refine smv (.int .i64 (f : Int)) rfl rfl rfl ?_
    simp only [AP]
    refine svl (.bool true) (.inl ⟨by rfl, fun w' _ => by (go_simp; try omega)⟩) ?_
    simp only [AP]
    refine wpSeq_nil ?_
    refine (by assumption : ∀ (a : Act) (w : World), _ → _) _ _ ?_
    go_upto_region 11 with fail
    rename_i aK
    refine wp_region_seq ?_
    refine wpSeq_yield (S := fun _ => True) (v := .agg (ansV z32 z32 false)) (Or.inl ⟨rfl, fun w' _ => by simp only [execOp, Sem.run_bind, Array.map_empty, run_ans0 w', Result.andThen_ok, Sem.run_pure]⟩) trivial ?_
    simp only [AP]
    refine smv (.int .i64 (f : Int)) rfl rfl rfl ?_
    simp only [AP]
    refine wpSeq_store_row rfl 25 _ _ rfl W.heap.size (ansV z32 z32 false) rfl rfl _ _ KR zi (by rw [hZ, zs]) (ansV_one _ _ _) ?_
    simp only [Act.put]
    refine sas (.int .i64 (f : Int)) rfl rfl rfl ?_
    simp only [AP]
    refine wpSeq_nil ?_
    refine (by assumption : ∀ (a : Act) (w : World), _ → _) _ _ ?_
    go_wp2
    refine bodyPost_ret (results_cell_tmp rfl _ _ _ 25 _ (0, 0) _ _ rfl (Blk.row KR _) Tryz.underlying25 rfl zi rfl) rfl ?_
    exact ⟨by first | (rw [ha.out]; rfl) | rfl, below_setRow b0 (Nat.le_refl _) _⟩
  ·
   have yi : ¬ (y : Int) = 1 := by omega
   have yq : (y == 1) = false := beq_eq_false_iff_ne.2 y1
   have HQ := HX.out.ans
   rw [yq] at HQ
   replace HQ := fun XV h => HRS.out.symm.trans (HQ XV h).symm
   have HQ := Lib.hid HQ
   clear y1 yq HX HRS
   go_upto_region 8 with fail
   rename_i aK
   refine wp_region_seq ?_
   refine smv (.int .u8 (y : Int)) rfl rfl rfl ?_
   simp only [AP]
   refine svl (.bool false) (.inl ⟨by rfl, fun w' _ => by (go_simp; try omega)⟩) ?_
   simp only [AP]
   refine svl (.pointer (some ⟨g5, 64, none⟩)) (.inl ⟨by rfl, fun w' _ => by (go_simp)⟩) ?_
   simp only [AP]
   refine wpSeq_wp rfl ?_
   unfold Oper.wp execOp
   go_simp
   refine wpSeq_nil ?_
   refine (by assumption : ∀ (a : Act) (w : World), _ → _) _ _ ?_
   replace K5 := K5.set 64 (.bool false)
   rw [ans_set LK.out.1 LK.out.2] at K5
   replace KR : Blk (w5.setCell ⟨g5, 64, none⟩ (.bool false)) W.heap.size 25 Z := Blk.far (p := ⟨g5, 64, none⟩) KR (by have := NG5.out; show W.heap.size ≠ g5; omega) _
   replace R3 := R3.other (gb_set2 w5 g5 64 (.bool false)) (by have := NG5.out; omega) (by have := NG5.out; omega)
   have g5w : W.heap.size ≤ g5 := by have := NG5.out; omega
   replace b0 := b0.setCell (p := ⟨g5, 64, none⟩) g5w (.bool false)
   clear c5 f5 g5w
   generalize World.setCell w5 _ _ = w50 at *
   have cs := ansV_size LK.out.1 LK.out.2 false
   have cz := info_ansV cs
   go_upto_region 9 with fail
   rename_i aK
   refine wp_region_seq ?_
   refine smv (.pointer (some ⟨g, 0, none⟩)) rfl rfl rfl ?_
   simp only [AP]
   refine wpSeq_wp rfl ?_
   unfold Oper.wp execOp
   go_simp
   refine (WC.out g w50 _ R3).mono ?_
   rintro _ w6 ⟨rfl, GG⟩
   replace KR : Blk w6 W.heap.size 25 Z := (GG.block _ KR.lt (fun e => by have := Option.some.inj e; have := NG.out; omega)).trans KR
   replace K5 : Blk w6 g5 25 _ := (GG.block _ K5.lt (fun e => by have := Option.some.inj e; have := NG5.out; omega)).trans K5
   have ng : W.heap.size ≤ g := Nat.le_of_lt NG.out
   replace b0 := below_gb b0 GG ng b0.size
   clear ng GG WC R3
   go_simp
   refine sas (.int .i64 (f : Int)) rfl rfl rfl ?_
   simp only [AP]
   refine wpSeq_nil ?_
   refine (by assumption : ∀ (a : Act) (w : World), _ → _) _ _ ?_
   by_cases f0 : f = 0
   ·
    have ha := HQ.out _ (if_pos f0)
    rw [f0] at ha
    replace ha := Lib.hid ha
    subst f0
    clear HQ
    go_upto_region 10 with fail
    rename_i aK
    refine wp_region_seq ?_
    refine smv (.int .i64 0) rfl rfl rfl ?_
    simp only [AP]
    refine svl (.bool false) (.inl ⟨by rfl, fun w' _ => by (go_simp; try omega)⟩) ?_
    simp only [AP]
    refine wpSeq_nil ?_
    refine (by assumption : ∀ (a : Act) (w : World), _ → _) _ _ ?_
    go_upto_region 12 with fail
    rename_i aK
    refine wp_region_seq ?_
    refine wpSeq_yield (S := fun w' => w' = w6) (show YieldsIf _ _ _ _ (.agg (ansV (padN 32 T1.1) (padN 32 T2.1) false)) _ from yieldsIf_row_wanted (S := fun w' => w' = w6) rfl 25 _ rfl g5 rfl 25 _ _ (fun _ h => h ▸ K5) Tryz.underlying25 rfl cz) rfl ?_
    simp only [AP]
    refine wpSeq_store_row rfl 25 _ _ rfl W.heap.size (ansV (padN 32 T1.1) (padN 32 T2.1) false) rfl rfl _ _ KR cz (by rw [hZ, cs]) (ansV_one _ _ _) ?_
    simp only [Act.put]
    refine sas (.int .i64 0) rfl rfl rfl ?_
    simp only [AP]
    refine wpSeq_nil ?_
    refine (by assumption : ∀ (a : Act) (w : World), _ → _) _ _ ?_
    go_wp2
    refine bodyPost_ret (results_cell_tmp rfl _ _ _ 25 _ (0, 0) _ _ rfl (Blk.row KR _) Tryz.underlying25 rfl cz rfl) rfl ?_
    exact ⟨by first | (rw [ha.out]; rfl) | rfl, below_setRow b0 (Nat.le_refl _) _⟩
   ·
    have ha := HQ.out _ (if_neg f0)
    replace ha := Lib.hid ha
    have f1 : ¬ (f : Int) = 0 := by omega
    clear HQ f0
    go_upto_region 10 with fail
    rename_i aK
    refine wp_region_seq ?_
    refine smv (.int .i64 (f : Int)) rfl rfl rfl ?_
    simp only [AP]
    refine svl (.bool true) (.inl ⟨by rfl, fun w' _ => by (go_simp; try omega)⟩) ?_
    simp only [AP]
    refine wpSeq_nil ?_
    refine (by assumption : ∀ (a : Act) (w : World), _ → _) _ _ ?_
    go_upto_region 11 with fail
    rename_i aK
    refine wp_region_seq ?_
    refine wpSeq_yield (S := fun _ => True) (v := .agg (ansV z32 z32 false)) (Or.inl ⟨rfl, fun w' _ => by simp only [execOp, Sem.run_bind, Array.map_empty, run_ans0 w', Result.andThen_ok, Sem.run_pure]⟩) trivial ?_
    simp only [AP]
    refine smv (.int .i64 (f : Int)) rfl rfl rfl ?_
    simp only [AP]
    refine wpSeq_store_row rfl 25 _ _ rfl W.heap.size (ansV z32 z32 false) rfl rfl _ _ KR zi (by rw [hZ, zs]) (ansV_one _ _ _) ?_
    simp only [Act.put]
    refine sas (.int .i64 (f : Int)) rfl rfl rfl ?_
    simp only [AP]
    refine wpSeq_nil ?_
    refine (by assumption : ∀ (a : Act) (w : World), _ → _) _ _ ?_
    go_wp2
    refine bodyPost_ret (results_cell_tmp rfl _ _ _ 25 _ (0, 0) _ _ rfl (Blk.row KR _) Tryz.underlying25 rfl zi rfl) rfl ?_
    exact ⟨by first | (rw [ha.out]; rfl) | rfl, below_setRow b0 (Nat.le_refl _) _⟩
 clear aJ WC
 have HF := HX.out.h4
 by_cases hy : 1 < y
 ·
  rw [if_pos hy] at HF
  have yi : (1 : Int) < (y : Int) := by omega
  have FL := rfail_m W.heap.size g (some ⟨g, 0, none⟩) l3 c3 5 w9 R5
  rw [show (if c3 = 0 then 5 else c3) = c4 from HF] at FL
  have FL := Lib.hid FL
  clear hy HF R5
  go_upto_region 6 with fail
  rename_i aK
  refine wp_region_seq ?_
  refine smv (.int .u8 (y : Int)) rfl rfl rfl ?_
  simp only [AP]
  refine svl (.bool true) (.inl ⟨by rfl, fun w' _ => by (go_simp; try omega)⟩) ?_
  simp only [AP]
  refine wpSeq_nil ?_
  refine (by assumption : ∀ (a : Act) (w : World), _ → _) _ _ ?_
  go_upto_region 7 with fail
  rename_i aK
  refine wp_region_seq ?_
  refine smv (.pointer (some ⟨g, 0, none⟩)) rfl rfl rfl ?_
  simp only [AP]
  refine wpSeq_wp rfl ?_
  unfold Oper.wp execOp
  go_simp
  refine FL.out.mono ?_
  rintro _ w7 ⟨⟨v23, rfl⟩, R7, GG⟩
  replace KR : Blk w7 W.heap.size 25 Z := (GG.block _ KR.lt (fun e => by have := Option.some.inj e; have := NG.out; omega)).trans KR
  replace K5 : Blk w7 g5 25 _ := (GG.block _ K5.lt (fun e => by have := Option.some.inj e; have := NG5.out; omega)).trans K5
  have ng : W.heap.size ≤ g := Nat.le_of_lt NG.out
  replace b0 := below_gb b0 GG ng b0.size
  clear ng GG
  clear FL
  go_simp
  refine wpSeq_nil ?_
  go_wp2
  exact AK _ _ _ _ w7 R7 KR K5 b0
 ·
  rw [if_neg hy] at HF
  subst HF
  have yi : ¬ (1 : Int) < (y : Int) := by omega
  clear hy
  go_upto_region 6 with fail
  rename_i aK
  refine wp_region_seq ?_
  refine smv (.int .u8 (y : Int)) rfl rfl rfl ?_
  simp only [AP]
  refine svl (.bool false) (.inl ⟨by rfl, fun w' _ => by (go_simp; try omega)⟩) ?_
  simp only [AP]
  refine wpSeq_nil ?_
  refine (by assumption : ∀ (a : Act) (w : World), _ → _) _ _ ?_
  go_wp2
  exact AK _ _ _ _ w9 R5 KR K5 b0
end Go.Proofs.YtegbnadnodlalaaGreatDoor
namespace Go.Proofs.YtegbnadnodlalaaGreatDoor
open Go.RowKit
theorem ansF : (Tryz.prog.fieldsOf 25).toList.map (fun f => (f.type, f.offset)) = [(23, 0), (23, 32), (4, 64)] := by kernel_rfl
theorem ansN : (Tryz.prog.fieldsOf 25).toList.all (fun f => decide (f.name ≠ "_")) = true := by kernel_rfl
theorem ansU : Tryz.prog.underlying 25 = some (.struct (Tryz.prog.fieldsOf 25)) := by kernel_rfl
theorem ansH : Tryz.prog.stoodInHeld 25 = false := by kernel_rfl
theorem ansG : Tryz.prog.eqGuardType Tryz.prog.depth 25 = false := by kernel_rfl
theorem parF4 : (Tryz.prog.fieldsOf 28).toList.map (fun f => (f.type, f.offset)) = [(26, 0), (26, 1), (26, 2), (26, 3)] := by kernel_rfl
theorem parN : (Tryz.prog.fieldsOf 28).toList.all (fun f => decide (f.name ≠ "_")) = true := by kernel_rfl
theorem parU : Tryz.prog.underlying 28 = some (.struct (Tryz.prog.fieldsOf 28)) := by kernel_rfl
theorem parH : Tryz.prog.stoodInHeld 28 = false := by kernel_rfl
theorem parG : Tryz.prog.eqGuardType Tryz.prog.depth 28 = false := by kernel_rfl
theorem ext_rnd {r : List Nat} (s : List Nat) (q : Bool) (lr : r.length = 32) : (ansV r s q).extract 0 (0 + 32) = Iv .u8 (NI r) := by
 rw [vals_iv]
 apply Array.ext'
 simp [ansV, ansL, List.take_append, List.drop_append, vals_length, lr]
theorem ext_sha {r s : List Nat} (q : Bool) (lr : r.length = 32) (ls : s.length = 32) : (ansV r s q).extract 32 (32 + 32) = Iv .u8 (NI s) := by
 rw [vals_iv]
 apply Array.ext'
 simp [ansV, ansL, List.take_append, List.drop_append, vals_length, lr, ls]
theorem get_psk {r s : List Nat} (q : Bool) (lr : r.length = 32) (ls : s.length = 32) : (ansV r s q)[64]? = some (.bool q) := by
 rw [ansV, ansL, List.getElem?_toArray, List.getElem?_append_right (by rw [vals_length, lr]; decide), List.getElem?_append_right (by rw [vals_length, vals_length, lr, ls]; decide), vals_length, vals_length, lr, ls]
 rfl
theorem ans_eq (r s : List Nat) (q : Bool) (lr : r.length = 32) (ls : s.length = 32) (w : World) : (Op.equalIn 10000 25 (.agg (ansV r s q)) (.agg (ansV r s q))).run Tryz.prog w = .ok true w := by
 have hf := ansF
 have hn := ansN
 rw [run_equalIn_struct w 9999 25 _ _ ansU ansH]
 generalize (Tryz.prog.fieldsOf 25).toList = L at *
 obtain ⟨f1, L1, rfl, e1, hf⟩ := List.map_eq_cons_iff.1 hf
 obtain ⟨f2, L2, rfl, e2, hf⟩ := List.map_eq_cons_iff.1 hf
 obtain ⟨f3, L3, rfl, e3, hf⟩ := List.map_eq_cons_iff.1 hf
 obtain rfl := List.map_eq_nil_iff.1 hf
 simp only [Prod.mk.injEq] at e1 e2 e3
 simp only [List.all_cons, List.all_nil, Bool.and_true, Bool.and_eq_true, decide_eq_true_eq] at hn
 have p1 : (part f1.type (ansV r s q) f1.offset).run Tryz.prog w = .ok (.agg (Iv .u8 (NI r))) w := by
  rw [e1.1, e1.2, part_row _ 32 _ _ w _ Tryz.underlying23 rfl (by kernel_rfl), ext_rnd s q lr]
 have p2 : (part f2.type (ansV r s q) f2.offset).run Tryz.prog w = .ok (.agg (Iv .u8 (NI s))) w := by
  rw [e2.1, e2.2, part_row _ 32 _ _ w _ Tryz.underlying23 rfl (by kernel_rfl), ext_sha q lr ls]
 have p3 : (part f3.type (ansV r s q) f3.offset).run Tryz.prog w = .ok (.bool q) w := by
  rw [e3.1, e3.2]
  simp [part, isAgg, run_underlying Tryz.underlying4, get_psk q lr ls]
 rw [eqF_step f1 _ _ _ 9999 w hn.1 _ _ p1 p1 (by rw [e1.1]; exact eq_key9 r lr w), eqF_step f2 _ _ _ 9999 w hn.2.1 _ _ p2 p2 (by rw [e2.1]; exact eq_key9 s ls w), eqF_step f3 _ _ _ 9999 w hn.2.2 _ _ p3 p3 (by rw [e3.1, run_equalIn_bool w 9998 _ _ _ Tryz.underlying4]; simp)]
 rfl
theorem par_eq (a b c d : Nat) (w : World) : (Op.equalIn 10000 28 (.agg (parV a b c d)) (.agg (parV a b c d))).run Tryz.prog w = .ok true w := by
 have hf := parF4
 have hn := parN
 rw [run_equalIn_struct w 9999 28 _ _ parU parH]
 generalize (Tryz.prog.fieldsOf 28).toList = L at *
 obtain ⟨f1, L1, rfl, e1, hf⟩ := List.map_eq_cons_iff.1 hf
 obtain ⟨f2, L2, rfl, e2, hf⟩ := List.map_eq_cons_iff.1 hf
 obtain ⟨f3, L3, rfl, e3, hf⟩ := List.map_eq_cons_iff.1 hf
 obtain ⟨f4, L4, rfl, e4, hf⟩ := List.map_eq_cons_iff.1 hf
 obtain rfl := List.map_eq_nil_iff.1 hf
 simp only [Prod.mk.injEq] at e1 e2 e3 e4
 simp only [List.all_cons, List.all_nil, Bool.and_true, Bool.and_eq_true, decide_eq_true_eq] at hn
 have p1 : (part f1.type (parV a b c d) f1.offset).run Tryz.prog w = .ok (.int .u64 (a : Int)) w := by
  rw [e1.1, e1.2]
  simp [part, isAgg, run_underlying Tryz.underlying26, parV]
 have p2 : (part f2.type (parV a b c d) f2.offset).run Tryz.prog w = .ok (.int .u64 (b : Int)) w := by
  rw [e2.1, e2.2]
  simp [part, isAgg, run_underlying Tryz.underlying26, parV]
 have p3 : (part f3.type (parV a b c d) f3.offset).run Tryz.prog w = .ok (.int .u64 (c : Int)) w := by
  rw [e3.1, e3.2]
  simp [part, isAgg, run_underlying Tryz.underlying26, parV]
 have p4 : (part f4.type (parV a b c d) f4.offset).run Tryz.prog w = .ok (.int .u64 (d : Int)) w := by
  rw [e4.1, e4.2]
  simp [part, isAgg, run_underlying Tryz.underlying26, parV]
 rw [eqF_step f1 _ _ _ 9999 w hn.1 _ _ p1 p1 (by rw [e1.1, run_equalIn_int w 9998 _ _ _ _ _ Tryz.underlying26]; simp), eqF_step f2 _ _ _ 9999 w hn.2.1 _ _ p2 p2 (by rw [e2.1, run_equalIn_int w 9998 _ _ _ _ _ Tryz.underlying26]; simp), eqF_step f3 _ _ _ 9999 w hn.2.2.1 _ _ p3 p3 (by rw [e3.1, run_equalIn_int w 9998 _ _ _ _ _ Tryz.underlying26]; simp), eqF_step f4 _ _ _ 9999 w hn.2.2.2 _ _ p4 p4 (by rw [e4.1, run_equalIn_int w 9998 _ _ _ _ _ Tryz.underlying26]; simp)]
 rfl
theorem yieldsIf_neqans {ops : Array Oper} {S : World → Prop} {o : Oper} {a : Act} (hgd : Region.wanted o (yielded ops a.tmps) = true) (x y : Operand) (ho : o.op = .binOp .neq 25 x y 25) (r s : List Nat) (q : Bool) (lr : r.length = 32) (ls : s.length = 32) (hx : a.eval x = .agg (ansV r s q)) (hy : a.eval y = .agg (ansV r s q)) : YieldsIf Tryz.prog ops S o (.bool false) a := by
 refine Or.inl ⟨hgd, fun w _ => ?_⟩
 simp only [execOp, ho, hx, hy, Sem.run_bind, Sem.run_pure, Result.andThen_ok, run_eqGuard_agg (hm := ansG), run_neq_struct, ans_eq r s q lr ls w, Bool.not_true]
theorem yieldsIf_neqpar {ops : Array Oper} {S : World → Prop} {o : Oper} {a : Act} (hgd : Region.wanted o (yielded ops a.tmps) = true) (x y : Operand) (ho : o.op = .binOp .neq 28 x y 28) (b c d e : Nat) (hx : a.eval x = .agg (parV b c d e)) (hy : a.eval y = .agg (parV b c d e)) : YieldsIf Tryz.prog ops S o (.bool false) a := by
 refine Or.inl ⟨hgd, fun w _ => ?_⟩
 simp only [execOp, ho, hx, hy, Sem.run_bind, Sem.run_pure, Result.andThen_ok, run_eqGuard_agg (hm := parG), run_neq_struct, par_eq b c d e w, Bool.not_true]
end Go.Proofs.YtegbnadnodlalaaGreatDoor
