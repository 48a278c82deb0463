/- The reference's Params (printed by gen14/wj.py). -/
import Derived.Test.YtegbnadnodlalaaGreatDoorWh0Wi
namespace Go.Proofs.YtegbnadnodlalaaGreatDoor
open Go.RowKit
set_option maxHeartbeats 8000000 in
set_option maxRecDepth 100000 in
theorem rreadparams_m (l : List Nat) (q : Option Addr) (n cc : Nat) (bb : Bytes l) (hn : n ≤ 1000000) (W : World) (hs : SB W (.slice q n cc) l) :
  Calls Tryz.prog 11 #[.slice q n cc] W fun e w' => e = .returned (.tuple #[.agg (parV (readP l).2.1 (readP l).2.2.1 (readP l).2.2.2.1 (readP l).2.2.2.2), .int .i64 ((readP l).1 : Int)]) ∧ Below W.heap.size W w' := by
 have ln := hs.len.1
 have PC := fun (g : Nat) (w : World) (p : Option Addr) (h : RX W.heap.size g w p l 0) => rparams_m W.heap.size g p l 0 w h bb
 have WC := fun (g : Nat) (w : World) (p : Option Addr) (h : RX W.heap.size g w p (parS l 0).2.1 (parS l 0).2.2) => rend_m W.heap.size g p (parS l 0).2.1 (parS l 0).2.2 w h
 obtain ⟨f, hf⟩ : ∃ f, finS (parS l 0).2.1 (parS l 0).2.2 = f := ⟨_, rfl⟩
 have HQ := Lib.hid (fun XV h => readP_is l f hf XV h)
 rw [hf] at WC
 obtain ⟨RS, hRS⟩ : ∃ RS, Value.tuple #[.agg (parV (readP l).2.1 (readP l).2.2.1 (readP l).2.2.2.1 (readP l).2.2.2.2), .int .i64 ((readP l).1 : Int)] = RS := ⟨_, rfl⟩
 rw [hRS] at HQ ⊢
 obtain ⟨PV, hPV⟩ : ∃ V, parV (parS l 0).1.1 (parS l 0).1.2.1 (parS l 0).1.2.2.1 (parS l 0).1.2.2.2 = V := ⟨_, rfl⟩
 have pz : PV.size = 4 := by rw [← hPV]; rfl
 have p1 : PV.all (·.oneCell') = true := by rw [← hPV]; exact parV_one _ _ _ _
 have pi := info_parV pz
 rw [hPV] at HQ PC
 have R0 := Lib.hid (fun (g : Nat) (w : World) (hg : W.heap.size ≤ g) (b : Below W.heap.size W w) (K : Blk w g 70 #[.slice q n cc, .int .i64 0]) => show RX W.heap.size g w (some ⟨g, 0, none⟩) l 0 from ⟨⟨q, cc, rfl, ln ▸ K, ln ▸ hs.below b, hs.lo⟩, hg, by omega⟩)
 replace PC := Lib.hid PC
 replace WC := Lib.hid WC
 replace p1 := Lib.hid p1
 clear hs bb hn hf hRS hPV ln
 generalize parS l 0 = T at *
 go_enter Tryz.func11, Tryz.ntmps11
 go_upto_region 0 with fail
 rename_i aK
 refine wp_region_seq ?_
 refine wpSeq_wp rfl ?_
 unfold Oper.wp execOp
 go_simp
 refine sas (.int .i64 0) rfl rfl rfl ?_
 simp only [AP]
 refine wpSeq_nil ?_
 refine aK _ _ ?_
 clear aK
 generalize hW : World.alloc W _ = w1
 obtain ⟨Z, hZ, KR, b0⟩ : ∃ Z : Array Value, Z.size = 4 ∧ Blk w1 W.heap.size 28 Z ∧ Below W.heap.size W w1 := by
  rw [← hW]
  exact ⟨_, rfl, Blk.new _ _ _, (Below.refl _ _).alloc (Nat.le_refl _) _⟩
 clear hW
 go_upto_region 1 with fail
 rename_i aK
 refine wp_region_seq ?_
 refine smv (.slice q n cc) rfl rfl rfl ?_
 simp only [AP]
 refine svl (.agg #[.slice q n cc, .int .i64 0]) (.inl ⟨by rfl, fun w' _ => by (go_simp)⟩) ?_
 simp only [AP]
 refine wpSeq_wp rfl ?_
 unfold Oper.wp execOp
 go_simp
 have KG := Blk.new w1 70 #[.slice q n cc, .int .i64 0]
 have b3 := (Below.refl w1.heap.size w1).alloc (Nat.le_refl _) (.cells #[.slice q n cc, .int .i64 0] 70)
 generalize World.alloc w1 _ = w2 at *
 have NG := Lib.hid KR.lt
 replace KR := KR.below' b3
 replace b0 := b0.trans (b3.mono b0.size)
 clear b3
 obtain ⟨g, hg⟩ : ∃ g, w1.heap.size = g := ⟨_, rfl⟩
 rw [hg] at KG NG ⊢
 clear hg
 have R2 := R0.out g w2 (Nat.le_of_lt NG.out) b0 KG
 clear R0 KG
 refine sas (.pointer (some ⟨g, 0, none⟩)) rfl rfl rfl ?_
 simp only [AP]
 refine wpSeq_nil ?_
 refine (by assumption : ∀ (a : Act) (w : World), _ → _) _ _ ?_
 go_upto_region 2 with fail
 rename_i aK
 refine wp_region_seq ?_
 refine smv (.pointer (some ⟨g, 0, none⟩)) rfl rfl rfl ?_
 simp only [AP]
 refine wpSeq_wp rfl ?_
 unfold Oper.wp execOp
 go_simp
 refine (PC.out g w2 _ R2).mono ?_
 rintro _ w3 ⟨rfl, R3, GG⟩
 replace KR : Blk w3 W.heap.size 28 Z := (GG.block _ KR.lt (fun e => by have := Option.some.inj e; have := NG.out; omega)).trans KR
 have ng : W.heap.size ≤ g := Nat.le_of_lt NG.out
 replace b0 := below_gb b0 GG ng b0.size
 clear ng GG PC R2
 go_simp
 refine wpSeq_wp rfl ?_
 unfold Oper.wp execOp
 go_simp
 generalize hW : World.alloc w3 _ = w4
 obtain ⟨Z5, hZ5, K5, b3⟩ : ∃ Z5 : Array Value, Z5.size = 4 ∧ Blk w4 w3.heap.size 28 Z5 ∧ Below w3.heap.size w3 w4 := by
  rw [← hW]
  exact ⟨_, rfl, Blk.new _ _ _, (Below.refl _ _).alloc (Nat.le_refl _) _⟩
 clear hW
 have NG5 := Lib.hid (show W.heap.size < w3.heap.size ∧ g < w3.heap.size from ⟨KR.lt, R3.lt⟩)
 replace KR := KR.below' b3
 replace R3 := R3.below b3
 replace b0 := b0.trans (b3.mono b0.size)
 clear b3
 obtain ⟨g5, hg5⟩ : ∃ g, w3.heap.size = g := ⟨_, rfl⟩
 rw [hg5] at K5 NG5 ⊢
 clear hg5
 refine wpSeq_store_row rfl 28 _ _ rfl g5 PV rfl rfl _ _ K5 pi (by rw [hZ5, pz]) p1.out ?_
 simp only [Act.put]
 refine wpSeq_nil ?_
 refine (by assumption : ∀ (a : Act) (w : World), _ → _) _ _ ?_
 have G5 := grown_one w4 g5 PV
 replace R3 := R3.other G5 (by have := NG5.out; omega) (by have := NG5.out; omega)
 replace K5 := K5.row PV
 replace KR : Blk (w4.setRow g5 PV) W.heap.size 28 Z := KR.rowFar (by have := NG5.out; omega) _
 have gg5 : W.heap.size ≤ g5 := by have := NG5.out; omega
 replace b0 := below_setRow b0 gg5 PV
 generalize World.setRow w4 g5 _ = w5 at *
 clear G5 gg5
 have zi := info_parV (CV := parV 0 0 0 0) rfl
 have zs : (parV 0 0 0 0).size = 4 := rfl
 go_upto_region 3 with fail
 rename_i aK
 refine wp_region_seq ?_
 refine smv (.pointer (some ⟨g, 0, none⟩)) rfl rfl rfl ?_
 simp only [AP]
 refine wpSeq_wp rfl ?_
 unfold Oper.wp execOp
 go_simp
 refine (WC.out g w5 _ R3).mono ?_
 rintro _ w6 ⟨rfl, GG⟩
 replace KR : Blk w6 W.heap.size 28 Z := (GG.block _ KR.lt (fun e => by have := Option.some.inj e; have := NG.out; omega)).trans KR
 replace K5 : Blk w6 g5 28 _ := (GG.block _ K5.lt (fun e => by have := Option.some.inj e; have := NG5.out; omega)).trans K5
 have ng : W.heap.size ≤ g := Nat.le_of_lt NG.out
 replace b0 := below_gb b0 GG ng b0.size
 clear ng GG WC R3
 go_simp
 refine sas (.int .i64 (f : Int)) rfl rfl rfl ?_
 simp only [AP]
 refine wpSeq_nil ?_
 refine (by assumption : ∀ (a : Act) (w : World), _ → _) _ _ ?_
 by_cases f0 : f = 0
 ·
  have ha := HQ.out _ (if_pos f0)
  rw [f0] at ha
  replace ha := Lib.hid ha
  subst f0
  clear HQ
  go_upto_region 4 with fail
  rename_i aK
  refine wp_region_seq ?_
  refine smv (.int .i64 0) rfl rfl rfl ?_
  simp only [AP]
  refine svl (.bool false) (.inl ⟨by rfl, fun w' _ => by (go_simp; try omega)⟩) ?_
  simp only [AP]
  refine wpSeq_nil ?_
  refine (by assumption : ∀ (a : Act) (w : World), _ → _) _ _ ?_
  go_upto_region 6 with fail
  rename_i aK
  refine wp_region_seq ?_
  refine wpSeq_yield (S := fun w' => w' = w6) (show YieldsIf _ _ _ _ (.agg PV) _ from yieldsIf_row_wanted (S := fun w' => w' = w6) rfl 28 _ rfl g5 rfl 28 _ _ (fun _ h => h ▸ K5) Tryz.underlying28 rfl pi) rfl ?_
  simp only [AP]
  refine wpSeq_store_row rfl 28 _ _ rfl W.heap.size PV rfl rfl _ _ KR pi (by rw [hZ, pz]) p1.out ?_
  simp only [Act.put]
  refine sas (.int .i64 0) rfl rfl rfl ?_
  simp only [AP]
  refine wpSeq_nil ?_
  refine (by assumption : ∀ (a : Act) (w : World), _ → _) _ _ ?_
  go_wp2
  refine bodyPost_ret (results_cell_tmp rfl _ _ _ 28 _ (0, 0) _ _ rfl (Blk.row KR _) Tryz.underlying28 rfl pi rfl) rfl ?_
  exact ⟨by first | (rw [ha.out]; rfl) | rfl, below_setRow b0 (Nat.le_refl _) _⟩
 ·
  have ha := HQ.out _ (if_neg f0)
  replace ha := Lib.hid ha
  have f1 : ¬ (f : Int) = 0 := by omega
  clear HQ f0
  go_upto_region 4 with fail
  rename_i aK
  refine wp_region_seq ?_
  refine smv (.int .i64 (f : Int)) rfl rfl rfl ?_
  simp only [AP]
  refine svl (.bool true) (.inl ⟨by rfl, fun w' _ => by (go_simp; try omega)⟩) ?_
  simp only [AP]
  refine wpSeq_nil ?_
  refine (by assumption : ∀ (a : Act) (w : World), _ → _) _ _ ?_
  go_upto_region 5 with fail
  rename_i aK
  refine wp_region_seq ?_
  refine wpSeq_yield (S := fun _ => True) (v := .agg (parV 0 0 0 0)) (Or.inl ⟨rfl, fun w' _ => by simp only [execOp, Sem.run_bind, Array.map_empty, run_par0 w', Result.andThen_ok, Sem.run_pure]⟩) trivial ?_
  simp only [AP]
  refine smv (.int .i64 (f : Int)) rfl rfl rfl ?_
  simp only [AP]
  refine wpSeq_store_row rfl 28 _ _ rfl W.heap.size (parV 0 0 0 0) rfl rfl _ _ KR zi (by rw [hZ, zs]) (parV_one _ _ _ _) ?_
  simp only [Act.put]
  refine sas (.int .i64 (f : Int)) rfl rfl rfl ?_
  simp only [AP]
  refine wpSeq_nil ?_
  refine (by assumption : ∀ (a : Act) (w : World), _ → _) _ _ ?_
  go_wp2
  refine bodyPost_ret (results_cell_tmp rfl _ _ _ 28 _ (0, 0) _ _ rfl (Blk.row KR _) Tryz.underlying28 rfl zi rfl) rfl ?_
  exact ⟨by first | (rw [ha.out]; rfl) | rfl, below_setRow b0 (Nat.le_refl _) _⟩
end Go.Proofs.YtegbnadnodlalaaGreatDoor
