/- The program's whole, of an answer and of parameters (printed by gen14/wb.py). The program's parameters, of a reader (printed by gen14/wc.py). The program's ReadParams (printed by gen14/wd.py). -/
import Derived.Test.YtegbnadnodlalaaGreatDoorE7b0Wa
import Derived.Test.YtegbnadnodlalaaGreatDoorE3c0E4a
import Derived.Test.YtegbnadnodlalaaGreatDoorRn0E3a
namespace Go.Proofs.YtegbnadnodlalaaGreatDoor
open Go.RowKit
set_option maxHeartbeats 8000000 in
set_option maxRecDepth 100000 in
theorem wholeAns_m (B : Nat) (p : Option Addr) (l : List Nat) (c : Nat) (CV : Array Value) (cz : CV.size = 65) (C1 : CV.all (·.oneCell') = true) (W : World) (h : RM B W p l c) :
  Calls Tryz.prog 21 #[.agg #[.pointer p], .agg CV] W fun e w' => e = .returned (.tuple #[.agg (if finS l c = 0 then CV else ansV z32 z32 false), .int .i64 (finS l c : Int)]) ∧ W.grownBy w' (some B) := by
 have FC := Lib.hid (fun (w : World) (h : RM B w p l c) => fin_m B p l c w h (Nat.le_of_lt h.lt))
 have CZ := info_ansV cz
 replace C1 := Lib.hid C1
 have CZ0 := info_ansV (CV := ansV z32 z32 false) (ansV_size z32_length z32_length false)
 have cz0 : (ansV z32 z32 false).size = 65 := ansV_size z32_length z32_length false
 have HB := Lib.hid h.lt
 have H := Lib.hid h
 rw [show (if l ≠ [] ∧ c = 0 then 4 else c) = finS l c from rfl] at FC
 generalize finS l c = f at *
 obtain ⟨XV, hXV⟩ : ∃ X, (if f = 0 then CV else ansV z32 z32 false) = X := ⟨_, rfl⟩
 rw [hXV]
 replace hXV := Lib.hid hXV
 clear h
 go_enter Tryz.func21, Tryz.ntmps21
 go_upto_region 0 with fail
 rename_i aK
 refine wp_region_seq ?_
 refine wpSeq_wp rfl ?_
 unfold Oper.wp execOp
 go_simp
 refine wpSeq_wp rfl ?_
 unfold Oper.wp execOp
 go_simp
 refine wpSeq_wp rfl ?_
 unfold Oper.wp execOp
 go_simp
 refine sas (.int .i64 0) rfl rfl rfl ?_
 simp only [AP]
 refine wpSeq_nil ?_
 refine aK _ _ ?_
 clear aK
 generalize hW : World.alloc (World.alloc (World.alloc W _) _) _ = w1
 obtain ⟨Z, hZ, K0, K1, KR, b0⟩ : ∃ Z : Array Value, Z.size = 65 ∧ Blk w1 W.heap.size 59 #[.pointer p] ∧ Blk w1 (W.heap.size + 1) 25 CV ∧ Blk w1 (W.heap.size + 2) 25 Z ∧ Below W.heap.size W w1 := by
  rw [← hW]
  exact ⟨_, rfl, three_alloc W _ _ _ _ _ _⟩
 clear hW
 have c0 : w1.cell? ⟨W.heap.size, 0, none⟩ = some (.pointer p) := K0.cell 0
 go_upto_region 1 with fail
 rename_i aK
 refine wp_region_seq ?_
 refine svl (.pointer (some ⟨W.heap.size, 0, none⟩)) (.inl ⟨by rfl, fun w' _ => by go_simp⟩) ?_
 simp only [AP]
 refine wpSeq_yield (S := fun w' => w' = w1) (v := .pointer p) (Or.inl ⟨by rfl, fun w' hw' => by (rw [hw']; go_simp)⟩) rfl ?_
 simp only [AP]
 refine wpSeq_wp rfl ?_
 unfold Oper.wp execOp
 go_simp
 refine (FC.out w1 (H.out.below b0)).mono ?_
 rintro _ w2 ⟨rfl, _, G2⟩
 have TW := gb_tr (gb_below b0 (some B)) G2
 replace K1 : Blk w2 (W.heap.size + 1) 25 CV := (G2.block _ K1.lt (fun e => by have := Option.some.inj e; have := HB.out; omega)).trans K1
 replace KR : Blk w2 (W.heap.size + 2) 25 Z := (G2.block _ KR.lt (fun e => by have := Option.some.inj e; have := HB.out; omega)).trans KR
 clear FC G2 b0 K0 c0
 go_simp
 refine sas (.int .i64 (f : Int)) rfl rfl rfl ?_
 simp only [AP]
 refine wpSeq_nil ?_
 refine (by assumption : ∀ (a : Act) (w : World), _ → _) _ _ ?_
 by_cases f0 : f = 0
 ·
  subst f0
  go_upto_region 2 with fail
  rename_i aK
  refine wp_region_seq ?_
  refine smv (.int .i64 0) rfl rfl rfl ?_
  simp only [AP]
  refine svl (.bool false) (.inl ⟨by rfl, fun w' _ => by (go_simp; try omega)⟩) ?_
  simp only [AP]
  refine wpSeq_nil ?_
  refine (by assumption : ∀ (a : Act) (w : World), _ → _) _ _ ?_
  go_upto_region 5 with fail
  rename_i aK
  refine wp_region_seq ?_
  refine wpSeq_yield (S := fun w' => w' = w2) (show YieldsIf _ _ _ _ (.agg CV) _ from yieldsIf_row_wanted (S := fun w' => w' = w2) rfl 25 _ rfl (W.heap.size + 1) rfl 25 _ _ (fun _ h => h ▸ K1) Tryz.underlying25 rfl CZ) rfl ?_
  simp only [AP]
  refine wpSeq_store_row rfl 25 _ _ rfl (W.heap.size + 2) CV rfl rfl _ _ KR CZ (by rw [hZ, cz]) C1.out ?_
  simp only [Act.put]
  refine sas (.int .i64 0) rfl rfl rfl ?_
  simp only [AP]
  refine wpSeq_nil ?_
  refine (by assumption : ∀ (a : Act) (w : World), _ → _) _ _ ?_
  have G5 : W.grownBy (w2.setRow (W.heap.size + 2) CV) (some B) := ⟨TW.os, TW.tape, TW.output, by rw [setRow_size]; exact TW.size, fun k hk hne => (setRow_other w2 _ k _ (by omega)).trans (TW.block k hk hne)⟩
  go_wp2
  refine bodyPost_ret (results_cell_tmp rfl _ _ _ 25 _ (0, 0) _ _ rfl (Blk.row KR _) Tryz.underlying25 rfl CZ rfl) rfl ?_
  have eX := hXV.out
  simp only [if_true] at eX
  exact ⟨by rw [← eX]; rfl, G5⟩
 ·
  have f1 : ¬ (f : Int) = 0 := by omega
  replace f0 := Lib.hid f0
  clear K1 CZ cz C1
  go_upto_region 2 with fail
  rename_i aK
  refine wp_region_seq ?_
  refine smv (.int .i64 (f : Int)) rfl rfl rfl ?_
  simp only [AP]
  refine svl (.bool true) (.inl ⟨by rfl, fun w' _ => by (go_simp; try omega)⟩) ?_
  simp only [AP]
  refine wpSeq_nil ?_
  refine (by assumption : ∀ (a : Act) (w : World), _ → _) _ _ ?_
  go_upto_region 3 with fail
  rename_i aK
  refine wp_region_seq ?_
  refine wpSeq_wp rfl ?_
  unfold Oper.wp execOp
  go_simp
  generalize hW : World.alloc w2 _ = w3
  obtain ⟨KK, b3⟩ : Blk w3 w2.heap.size 25 (ansV z32 z32 false) ∧ Below w2.heap.size w2 w3 := by
   rw [← hW]
   exact ⟨Blk.new _ _ _, (Below.refl _ _).alloc (Nat.le_refl _) _⟩
  clear hW
  have NG := Lib.hid (show W.heap.size + 2 < w2.heap.size from KR.lt)
  replace KR := KR.below' b3
  replace TW := gb_tr TW (gb_below b3 (some B))
  clear b3
  obtain ⟨g3, hg3⟩ : ∃ g, w2.heap.size = g := ⟨_, rfl⟩
  rw [hg3] at KK NG ⊢
  clear hg3
  refine wpSeq_nil ?_
  refine (by assumption : ∀ (a : Act) (w : World), _ → _) _ _ ?_
  go_upto_region 4 with fail
  rename_i aK
  refine wp_region_seq ?_
  refine wpSeq_yield (S := fun w' => w' = w3) (show YieldsIf _ _ _ _ (.agg (ansV z32 z32 false)) _ from yieldsIf_row_wanted (S := fun w' => w' = w3) rfl 25 _ rfl g3 rfl 25 _ _ (fun _ h => h ▸ KK) Tryz.underlying25 rfl CZ0) rfl ?_
  simp only [AP]
  refine smv (.int .i64 (f : Int)) rfl rfl rfl ?_
  simp only [AP]
  refine wpSeq_store_row rfl 25 _ _ rfl (W.heap.size + 2) (ansV z32 z32 false) rfl rfl _ _ KR CZ0 (by rw [hZ, cz0]) (ansV_one _ _ _) ?_
  simp only [Act.put]
  refine sas (.int .i64 (f : Int)) rfl rfl rfl ?_
  simp only [AP]
  refine wpSeq_nil ?_
  refine (by assumption : ∀ (a : Act) (w : World), _ → _) _ _ ?_
  have G5 : W.grownBy (w3.setRow (W.heap.size + 2) (ansV z32 z32 false)) (some B) := ⟨TW.os, TW.tape, TW.output, by rw [setRow_size]; exact TW.size, fun k hk hne => (setRow_other w3 _ k _ (by omega)).trans (TW.block k hk hne)⟩
  go_wp2
  refine bodyPost_ret (results_cell_tmp rfl _ _ _ 25 _ (0, 0) _ _ rfl (Blk.row KR _) Tryz.underlying25 rfl CZ0 rfl) rfl ?_
  exact ⟨by rw [← hXV.out, if_neg f0.out]; rfl, G5⟩
set_option maxHeartbeats 8000000 in
set_option maxRecDepth 100000 in
theorem wholePar_m (B : Nat) (p : Option Addr) (l : List Nat) (c : Nat) (CV : Array Value) (cz : CV.size = 4) (C1 : CV.all (·.oneCell') = true) (W : World) (h : RM B W p l c) :
  Calls Tryz.prog 23 #[.agg #[.pointer p], .agg CV] W fun e w' => e = .returned (.tuple #[.agg (if finS l c = 0 then CV else parV 0 0 0 0), .int .i64 (finS l c : Int)]) ∧ W.grownBy w' (some B) := by
 have FC := Lib.hid (fun (w : World) (h : RM B w p l c) => fin_m B p l c w h (Nat.le_of_lt h.lt))
 have CZ := info_parV cz
 replace C1 := Lib.hid C1
 have CZ0 := info_parV (CV := parV 0 0 0 0) (rfl)
 have cz0 : (parV 0 0 0 0).size = 4 := rfl
 have HB := Lib.hid h.lt
 have H := Lib.hid h
 rw [show (if l ≠ [] ∧ c = 0 then 4 else c) = finS l c from rfl] at FC
 generalize finS l c = f at *
 obtain ⟨XV, hXV⟩ : ∃ X, (if f = 0 then CV else parV 0 0 0 0) = X := ⟨_, rfl⟩
 rw [hXV]
 replace hXV := Lib.hid hXV
 clear h
 go_enter Tryz.func23, Tryz.ntmps23
 go_upto_region 0 with fail
 rename_i aK
 refine wp_region_seq ?_
 refine wpSeq_wp rfl ?_
 unfold Oper.wp execOp
 go_simp
 refine wpSeq_wp rfl ?_
 unfold Oper.wp execOp
 go_simp
 refine wpSeq_wp rfl ?_
 unfold Oper.wp execOp
 go_simp
 refine sas (.int .i64 0) rfl rfl rfl ?_
 simp only [AP]
 refine wpSeq_nil ?_
 refine aK _ _ ?_
 clear aK
 generalize hW : World.alloc (World.alloc (World.alloc W _) _) _ = w1
 obtain ⟨Z, hZ, K0, K1, KR, b0⟩ : ∃ Z : Array Value, Z.size = 4 ∧ Blk w1 W.heap.size 59 #[.pointer p] ∧ Blk w1 (W.heap.size + 1) 28 CV ∧ Blk w1 (W.heap.size + 2) 28 Z ∧ Below W.heap.size W w1 := by
  rw [← hW]
  exact ⟨_, rfl, three_alloc W _ _ _ _ _ _⟩
 clear hW
 have c0 : w1.cell? ⟨W.heap.size, 0, none⟩ = some (.pointer p) := K0.cell 0
 go_upto_region 1 with fail
 rename_i aK
 refine wp_region_seq ?_
 refine svl (.pointer (some ⟨W.heap.size, 0, none⟩)) (.inl ⟨by rfl, fun w' _ => by go_simp⟩) ?_
 simp only [AP]
 refine wpSeq_yield (S := fun w' => w' = w1) (v := .pointer p) (Or.inl ⟨by rfl, fun w' hw' => by (rw [hw']; go_simp)⟩) rfl ?_
 simp only [AP]
 refine wpSeq_wp rfl ?_
 unfold Oper.wp execOp
 go_simp
 refine (FC.out w1 (H.out.below b0)).mono ?_
 rintro _ w2 ⟨rfl, _, G2⟩
 have TW := gb_tr (gb_below b0 (some B)) G2
 replace K1 : Blk w2 (W.heap.size + 1) 28 CV := (G2.block _ K1.lt (fun e => by have := Option.some.inj e; have := HB.out; omega)).trans K1
 replace KR : Blk w2 (W.heap.size + 2) 28 Z := (G2.block _ KR.lt (fun e => by have := Option.some.inj e; have := HB.out; omega)).trans KR
 clear FC G2 b0 K0 c0
 go_simp
 refine sas (.int .i64 (f : Int)) rfl rfl rfl ?_
 simp only [AP]
 refine wpSeq_nil ?_
 refine (by assumption : ∀ (a : Act) (w : World), _ → _) _ _ ?_
 by_cases f0 : f = 0
 ·
  subst f0
  go_upto_region 2 with fail
  rename_i aK
  refine wp_region_seq ?_
  refine smv (.int .i64 0) rfl rfl rfl ?_
  simp only [AP]
  refine svl (.bool false) (.inl ⟨by rfl, fun w' _ => by (go_simp; try omega)⟩) ?_
  simp only [AP]
  refine wpSeq_nil ?_
  refine (by assumption : ∀ (a : Act) (w : World), _ → _) _ _ ?_
  go_upto_region 5 with fail
  rename_i aK
  refine wp_region_seq ?_
  refine wpSeq_yield (S := fun w' => w' = w2) (show YieldsIf _ _ _ _ (.agg CV) _ from yieldsIf_row_wanted (S := fun w' => w' = w2) rfl 28 _ rfl (W.heap.size + 1) rfl 28 _ _ (fun _ h => h ▸ K1) Tryz.underlying28 rfl CZ) rfl ?_
  simp only [AP]
  refine wpSeq_store_row rfl 28 _ _ rfl (W.heap.size + 2) CV rfl rfl _ _ KR CZ (by rw [hZ, cz]) C1.out ?_
  simp only [Act.put]
  refine sas (.int .i64 0) rfl rfl rfl ?_
  simp only [AP]
  refine wpSeq_nil ?_
  refine (by assumption : ∀ (a : Act) (w : World), _ → _) _ _ ?_
  have G5 : W.grownBy (w2.setRow (W.heap.size + 2) CV) (some B) := ⟨TW.os, TW.tape, TW.output, by rw [setRow_size]; exact TW.size, fun k hk hne => (setRow_other w2 _ k _ (by omega)).trans (TW.block k hk hne)⟩
  go_wp2
  refine bodyPost_ret (results_cell_tmp rfl _ _ _ 28 _ (0, 0) _ _ rfl (Blk.row KR _) Tryz.underlying28 rfl CZ rfl) rfl ?_
  have eX := hXV.out
  simp only [if_true] at eX
  exact ⟨by rw [← eX]; rfl, G5⟩
 ·
  have f1 : ¬ (f : Int) = 0 := by omega
  replace f0 := Lib.hid f0
  clear K1 CZ cz C1
  go_upto_region 2 with fail
  rename_i aK
  refine wp_region_seq ?_
  refine smv (.int .i64 (f : Int)) rfl rfl rfl ?_
  simp only [AP]
  refine svl (.bool true) (.inl ⟨by rfl, fun w' _ => by (go_simp; try omega)⟩) ?_
  simp only [AP]
  refine wpSeq_nil ?_
  refine (by assumption : ∀ (a : Act) (w : World), _ → _) _ _ ?_
  go_upto_region 3 with fail
  rename_i aK
  refine wp_region_seq ?_
  refine wpSeq_wp rfl ?_
  unfold Oper.wp execOp
  go_simp
  generalize hW : World.alloc w2 _ = w3
  obtain ⟨KK, b3⟩ : Blk w3 w2.heap.size 28 (parV 0 0 0 0) ∧ Below w2.heap.size w2 w3 := by
   rw [← hW]
   exact ⟨Blk.new _ _ _, (Below.refl _ _).alloc (Nat.le_refl _) _⟩
  clear hW
  have NG := Lib.hid (show W.heap.size + 2 < w2.heap.size from KR.lt)
  replace KR := KR.below' b3
  replace TW := gb_tr TW (gb_below b3 (some B))
  clear b3
  obtain ⟨g3, hg3⟩ : ∃ g, w2.heap.size = g := ⟨_, rfl⟩
  rw [hg3] at KK NG ⊢
  clear hg3
  refine wpSeq_nil ?_
  refine (by assumption : ∀ (a : Act) (w : World), _ → _) _ _ ?_
  go_upto_region 4 with fail
  rename_i aK
  refine wp_region_seq ?_
  refine wpSeq_yield (S := fun w' => w' = w3) (show YieldsIf _ _ _ _ (.agg (parV 0 0 0 0)) _ from yieldsIf_row_wanted (S := fun w' => w' = w3) rfl 28 _ rfl g3 rfl 28 _ _ (fun _ h => h ▸ KK) Tryz.underlying28 rfl CZ0) rfl ?_
  simp only [AP]
  refine smv (.int .i64 (f : Int)) rfl rfl rfl ?_
  simp only [AP]
  refine wpSeq_store_row rfl 28 _ _ rfl (W.heap.size + 2) (parV 0 0 0 0) rfl rfl _ _ KR CZ0 (by rw [hZ, cz0]) (parV_one _ _ _ _) ?_
  simp only [Act.put]
  refine sas (.int .i64 (f : Int)) rfl rfl rfl ?_
  simp only [AP]
  refine wpSeq_nil ?_
  refine (by assumption : ∀ (a : Act) (w : World), _ → _) _ _ ?_
  have G5 : W.grownBy (w3.setRow (W.heap.size + 2) (parV 0 0 0 0)) (some B) := ⟨TW.os, TW.tape, TW.output, by rw [setRow_size]; exact TW.size, fun k hk hne => (setRow_other w3 _ k _ (by omega)).trans (TW.block k hk hne)⟩
  go_wp2
  refine bodyPost_ret (results_cell_tmp rfl _ _ _ 28 _ (0, 0) _ _ rfl (Blk.row KR _) Tryz.underlying28 rfl CZ0 rfl) rfl ?_
  exact ⟨by rw [← hXV.out, if_neg f0.out]; rfl, G5⟩
end Go.Proofs.YtegbnadnodlalaaGreatDoor
namespace Go.Proofs.YtegbnadnodlalaaGreatDoor
open Go.RowKit
/-- Four numbers read, one behind the other. -/
theorem parS_is (l : List Nat) (c : Nat) : ∃ N1 N2 N3 N4, numS l c = N1 ∧ numS N1.2.1 N1.2.2 = N2 ∧ numS N2.2.1 N2.2.2 = N3 ∧ numS N3.2.1 N3.2.2 = N4 ∧ parS l c = ((N1.1, N2.1, N3.1, N4.1), N4.2.1, N4.2.2) :=
 ⟨_, _, _, _, rfl, rfl, rfl, rfl, rfl⟩
theorem yieldsIf_of_run {ops : Array Oper} {S : World → Prop} {o : Oper} {a : Act} (hgd : Region.wanted o (yielded ops a.tmps) = true) (t : TypeId) (parts : Array (Nat × Operand)) (ho : o.op = .build t parts) {cells : Array Value}
  (h : ∀ w, (Instr.build t (parts.map fun (i, x) => (i, a.eval x))).run Tryz.prog w = .ok (.agg cells) w) : YieldsIf Tryz.prog ops S o (.agg cells) a := by
 refine Or.inl ⟨hgd, fun w _ => ?_⟩
 simp only [execOp, ho, Sem.run_bind, h w, Result.andThen_ok, Sem.run_pure]
set_option maxHeartbeats 8000000 in
set_option maxRecDepth 100000 in
theorem params_m (B : Nat) (p : Option Addr) (l : List Nat) (c : Nat) (W : World) (h : RM B W p l c) :
  Calls Tryz.prog 24 #[.agg #[.pointer p]] W fun e w' => e = .returned (.agg (parV (parS l c).1.1 (parS l c).1.2.1 (parS l c).1.2.2.1 (parS l c).1.2.2.2)) ∧ RM B w' p (parS l c).2.1 (parS l c).2.2 ∧ W.grownBy w' (some B) := by
 obtain ⟨N1, N2, N3, N4, e1, e2, e3, e4, eP⟩ := parS_is l c
 have F1 := Lib.hid (fun (w : World) (h : RM B w p l c) => num_m B p l c w h (Nat.le_of_lt h.lt))
 have F2 := Lib.hid (fun (w : World) (h : RM B w p N1.2.1 N1.2.2) => num_m B p _ _ w h (Nat.le_of_lt h.lt))
 have F3 := Lib.hid (fun (w : World) (h : RM B w p N2.2.1 N2.2.2) => num_m B p _ _ w h (Nat.le_of_lt h.lt))
 have F4 := Lib.hid (fun (w : World) (h : RM B w p N3.2.1 N3.2.2) => num_m B p _ _ w h (Nat.le_of_lt h.lt))
 rw [e1] at F1
 rw [e2] at F2
 rw [e3] at F3
 rw [e4] at F4
 rw [eP]
 clear e1 e2 e3 e4 eP
 have HB := Lib.hid h.lt
 have H := Lib.hid h
 have ZP := Lib.hid (fun w => run_par w N1.1 N2.1 N3.1 N4.1)
 obtain ⟨PV, hPV⟩ : ∃ V, parV N1.1 N2.1 N3.1 N4.1 = V := ⟨_, rfl⟩
 rw [hPV] at ZP
 have pz : PV.size = 4 := by rw [← hPV]; rfl
 have p1 : PV.all (·.oneCell') = true := by rw [← hPV]; exact parV_one _ _ _ _
 dsimp only
 rw [hPV]
 clear h hPV
 have pi := info_parV pz
 replace p1 := Lib.hid p1
 go_enter Tryz.func24, Tryz.ntmps24
 go_upto_region 0 with fail
 rename_i aK
 refine wp_region_seq ?_
 refine wpSeq_wp rfl ?_
 unfold Oper.wp execOp
 go_simp
 refine wpSeq_wp rfl ?_
 unfold Oper.wp execOp
 go_simp
 refine wpSeq_nil ?_
 refine aK _ _ ?_
 clear aK
 generalize hW : World.alloc (World.alloc W _) _ = w1
 obtain ⟨Z, hZ, K0, KR, b0⟩ : ∃ Z : Array Value, Z.size = 4 ∧ Blk w1 W.heap.size 59 #[.pointer p] ∧ Blk w1 (W.heap.size + 1) 28 Z ∧ Below W.heap.size W w1 := by
  rw [← hW]
  exact ⟨_, rfl, (Blk.new _ _ _).alloc _, Blk.new' (by simp) _ _, ((Below.refl _ _).alloc (Nat.le_refl _) _).alloc (by simp) _⟩
 clear hW
 have bd := below_drew (Below.refl w1.heap.size w1)
 replace K0 := K0.below' bd
 replace KR := KR.below' bd
 replace b0 := b0.trans (bd.mono b0.size)
 clear bd
 go_upto_region 1 with fail
 rename_i aK
 refine wp_region_S (S := fun w' => Blk w' W.heap.size 59 #[.pointer p]) (by kernel_rfl) ?_
 generalize w1.drew = w3 at *
 have hS := K0
 refine wpAnyS_takeL 0 (v := .pointer (some ⟨W.heap.size, 0, none⟩)) rfl (by kernel_rfl) (by kernel_rfl) (by kernel_rfl) (fun _ _ _ H => H) (Or.inl ⟨by rfl, fun w' hw' => by go_simp⟩) hS ?_
 simp only [AP]
 refine wpAnyS_takeL 1 (v := .pointer p) rfl (by kernel_rfl) (by kernel_rfl) (by kernel_rfl) (fun _ _ _ H => H) (Or.inl ⟨by rfl, fun w' hw' => by (have cc := hw'.cell 0; go_simp)⟩) hS ?_
 simp only [AP]
 refine wpAnyS_takeL 3 (v := .pointer (some ⟨W.heap.size, 0, none⟩)) rfl (by kernel_rfl) (by kernel_rfl) (by kernel_rfl) (fun _ _ _ H => H) (Or.inl ⟨by rfl, fun w' hw' => by go_simp⟩) hS ?_
 simp only [AP]
 refine wpAnyS_takeL 4 (v := .pointer p) rfl (by kernel_rfl) (by kernel_rfl) (by kernel_rfl) (fun _ _ _ H => H) (Or.inl ⟨by rfl, fun w' hw' => by (have cc := hw'.cell 0; go_simp)⟩) hS ?_
 simp only [AP]
 refine wpAnyS_takeL 6 (v := .pointer (some ⟨W.heap.size, 0, none⟩)) rfl (by kernel_rfl) (by kernel_rfl) (by kernel_rfl) (fun _ _ _ H => H) (Or.inl ⟨by rfl, fun w' hw' => by go_simp⟩) hS ?_
 simp only [AP]
 refine wpAnyS_takeL 7 (v := .pointer p) rfl (by kernel_rfl) (by kernel_rfl) (by kernel_rfl) (fun _ _ _ H => H) (Or.inl ⟨by rfl, fun w' hw' => by (have cc := hw'.cell 0; go_simp)⟩) hS ?_
 simp only [AP]
 refine wpAnyS_takeL 9 (v := .pointer (some ⟨W.heap.size, 0, none⟩)) rfl (by kernel_rfl) (by kernel_rfl) (by kernel_rfl) (fun _ _ _ H => H) (Or.inl ⟨by rfl, fun w' hw' => by go_simp⟩) hS ?_
 simp only [AP]
 refine wpAnyS_takeL 10 (v := .pointer p) rfl (by kernel_rfl) (by kernel_rfl) (by kernel_rfl) (fun _ _ _ H => H) (Or.inl ⟨by rfl, fun w' hw' => by (have cc := hw'.cell 0; go_simp)⟩) hS ?_
 simp only [AP]
 clear hS
 have TW := gb_below b0 (some B)
 have RM0 := H.out.below b0
 clear b0
 refine gstep 2 rfl rfl (by kernel_rfl) ?_
 unfold Oper.wp execOp
 go_simp
 refine (F1.out w3 RM0).mono ?_
 rintro _ w4 ⟨rfl, RM1, G⟩
 replace K0 : Blk w4 W.heap.size 59 #[.pointer p] := (G.block _ K0.lt (fun e => by have := Option.some.inj e; have := HB.out; omega)).trans K0
 replace KR : Blk w4 (W.heap.size + 1) 28 Z := (G.block _ KR.lt (fun e => by have := Option.some.inj e; have := HB.out; omega)).trans KR
 replace TW := gb_tr TW G
 clear G RM0 F1
 refine ⟨K0, ?_⟩
 refine gstep 5 rfl rfl (by kernel_rfl) ?_
 unfold Oper.wp execOp
 go_simp
 refine (F2.out w4 RM1).mono ?_
 rintro _ w5 ⟨rfl, RM2, G⟩
 replace K0 : Blk w5 W.heap.size 59 #[.pointer p] := (G.block _ K0.lt (fun e => by have := Option.some.inj e; have := HB.out; omega)).trans K0
 replace KR : Blk w5 (W.heap.size + 1) 28 Z := (G.block _ KR.lt (fun e => by have := Option.some.inj e; have := HB.out; omega)).trans KR
 replace TW := gb_tr TW G
 clear G RM1 F2
 refine ⟨K0, ?_⟩
 refine gstep 8 rfl rfl (by kernel_rfl) ?_
 unfold Oper.wp execOp
 go_simp
 refine (F3.out w5 RM2).mono ?_
 rintro _ w6 ⟨rfl, RM3, G⟩
 replace K0 : Blk w6 W.heap.size 59 #[.pointer p] := (G.block _ K0.lt (fun e => by have := Option.some.inj e; have := HB.out; omega)).trans K0
 replace KR : Blk w6 (W.heap.size + 1) 28 Z := (G.block _ KR.lt (fun e => by have := Option.some.inj e; have := HB.out; omega)).trans KR
 replace TW := gb_tr TW G
 clear G RM2 F3
 refine ⟨K0, ?_⟩
 refine gstep 11 rfl rfl (by kernel_rfl) ?_
 unfold Oper.wp execOp
 go_simp
 refine (F4.out w6 RM3).mono ?_
 rintro _ w7 ⟨rfl, RM4, G⟩
 replace K0 : Blk w7 W.heap.size 59 #[.pointer p] := (G.block _ K0.lt (fun e => by have := Option.some.inj e; have := HB.out; omega)).trans K0
 replace KR : Blk w7 (W.heap.size + 1) 28 Z := (G.block _ KR.lt (fun e => by have := Option.some.inj e; have := HB.out; omega)).trans KR
 replace TW := gb_tr TW G
 clear G RM3 F4
 refine ⟨K0, ?_⟩
 have hS := K0
 refine wpAnyS_takeL 12 (v := .agg PV) rfl (by kernel_rfl) (by kernel_rfl) (by kernel_rfl) (fun _ _ _ H => H) (yieldsIf_of_run rfl _ _ rfl (by simp only [List.map_toArray, List.map_cons, List.map_nil]; exact ZP.out)) hS ?_
 simp only [AP]
 clear hS
 refine gstep 13 rfl rfl (by kernel_rfl) (wp_store_row 28 _ _ rfl (W.heap.size + 1) PV rfl rfl _ _ KR pi (by rw [hZ, pz]) p1.out ⟨?_, ?_⟩)
 · exact K0.rowFar (by omega) _
 simp only [Act.put]
 refine wpAnyS_done (by kernel_rfl) ?_ _
 refine aK _ _ ?_
 clear aK
 have RM5 := RM4.other (grown_one w7 (W.heap.size + 1) PV) (by have := HB.out; omega)
 have G5 : W.grownBy (w7.setRow (W.heap.size + 1) PV) (some B) := ⟨TW.os, TW.tape, TW.output, by rw [setRow_size]; exact TW.size, fun k hk hne => (setRow_other w7 _ k _ (by omega)).trans (TW.block k hk hne)⟩
 go_wp2
 exact bodyPost_ret (results_cell_row rfl _ _ _ 28 _ (0, 0) _ rfl (Blk.row KR _) Tryz.underlying28 rfl pi) rfl ⟨rfl, RM5, G5⟩
end Go.Proofs.YtegbnadnodlalaaGreatDoor
namespace Go.Proofs.YtegbnadnodlalaaGreatDoor
open Go.RowKit
theorem readP_is (l : List Nat) (f : Nat) (hf : finS (parS l 0).2.1 (parS l 0).2.2 = f) (XV : Array Value) (hX : (if f = 0 then parV (parS l 0).1.1 (parS l 0).1.2.1 (parS l 0).1.2.2.1 (parS l 0).1.2.2.2 else parV 0 0 0 0) = XV) :
  Value.tuple #[.agg (parV (readP l).2.1 (readP l).2.2.1 (readP l).2.2.2.1 (readP l).2.2.2.2), .int .i64 ((readP l).1 : Int)] = .tuple #[.agg XV, .int .i64 (f : Int)] := by
 unfold readP
 dsimp only
 rw [endS_fin, hf]
 subst hX
 by_cases h0 : f = 0
 ·
  subst h0
  rw [if_neg (by decide), if_pos rfl]
 · rw [if_pos h0, if_neg h0]
set_option maxHeartbeats 8000000 in
set_option maxRecDepth 100000 in
theorem readparams_m (l : List Nat) (q : Option Addr) (n cc : Nat) (bb : Bytes l) (hn : n ≤ 1000000) (W : World) (hs : SB W (.slice q n cc) l) :
  Calls Tryz.prog 8 #[.slice q n cc] W fun e w' => e = .returned (.tuple #[.agg (parV (readP l).2.1 (readP l).2.2.1 (readP l).2.2.2.1 (readP l).2.2.2.2), .int .i64 ((readP l).1 : Int)]) ∧ Below W.heap.size W w' := by
 have NC := Lib.hid (fun (w : World) (h : Below W.heap.size W w) => new_m l q n cc bb hn w (hs.below h))
 have PC := fun (g : Nat) (w : World) (p : Option Addr) (h : RM g w p l 0) => params_m g p l 0 w h
 have WC := fun (g : Nat) (w : World) (p : Option Addr) (h : RM g w p (parS l 0).2.1 (parS l 0).2.2) => wholePar_m g p (parS l 0).2.1 (parS l 0).2.2 (parV (parS l 0).1.1 (parS l 0).1.2.1 (parS l 0).1.2.2.1 (parS l 0).1.2.2.2) rfl (parV_one _ _ _ _) w h
 obtain ⟨f, hf⟩ : ∃ f, finS (parS l 0).2.1 (parS l 0).2.2 = f := ⟨_, rfl⟩
 obtain ⟨XV, hXV⟩ : ∃ X, (if f = 0 then parV (parS l 0).1.1 (parS l 0).1.2.1 (parS l 0).1.2.2.1 (parS l 0).1.2.2.2 else parV 0 0 0 0) = X := ⟨_, rfl⟩
 rw [readP_is l f hf XV hXV]
 rw [hf] at WC
 rw [hXV] at WC
 have xz : XV.size = 4 := by rw [← hXV]; split <;> rfl
 have x1 : XV.all (·.oneCell') = true := by rw [← hXV]; split <;> exact parV_one _ _ _ _
 have xi := info_parV xz
 clear hXV hf
 generalize parV (parS l 0).1.1 (parS l 0).1.2.1 (parS l 0).1.2.2.1 (parS l 0).1.2.2.2 = PV at *
 generalize parS l 0 = T at *
 replace PC := Lib.hid PC
 replace WC := Lib.hid WC
 replace x1 := Lib.hid x1
 clear hs bb hn
 go_enter Tryz.func8, Tryz.ntmps8
 go_upto_region 0 with fail
 rename_i aK
 refine wp_region_seq ?_
 refine wpSeq_wp rfl ?_
 unfold Oper.wp execOp
 go_simp
 refine sas (.int .i64 0) rfl rfl rfl ?_
 simp only [AP]
 refine wpSeq_nil ?_
 refine aK _ _ ?_
 clear aK
 generalize hW : World.alloc W _ = w1
 obtain ⟨Z, hZ, KR, b0⟩ : ∃ Z : Array Value, Z.size = 4 ∧ Blk w1 W.heap.size 28 Z ∧ Below W.heap.size W w1 := by
  rw [← hW]
  exact ⟨_, rfl, Blk.new _ _ _, (Below.refl _ _).alloc (Nat.le_refl _) _⟩
 clear hW
 go_upto_region 1 with fail
 rename_i aK
 refine wp_region_seq ?_
 refine smv (.slice q n cc) rfl rfl rfl ?_
 simp only [AP]
 refine wpSeq_wp rfl ?_
 unfold Oper.wp execOp
 go_simp
 refine (NC.out w1 b0).mono ?_
 rintro _ w2 ⟨g, rfl, hg, R2, b2⟩
 have NG := Lib.hid (Nat.lt_of_lt_of_le KR.lt hg)
 replace KR := KR.below' b2
 replace b0 := b0.trans (b2.mono b0.size)
 clear NC b2 hg
 go_simp
 refine svl (.agg #[.pointer (some ⟨g, 0, none⟩)]) (.inl ⟨by rfl, fun w' _ => by (go_simp)⟩) ?_
 simp only [AP]
 refine wpSeq_wp rfl ?_
 unfold Oper.wp execOp
 go_simp
 generalize hW : World.alloc w2 _ = w3
 obtain ⟨Z4, hZ4, K4, b3⟩ : ∃ Z4 : Array Value, Z4.size = 1 ∧ Blk w3 w2.heap.size 59 Z4 ∧ Below w2.heap.size w2 w3 := by
  rw [← hW]
  exact ⟨_, rfl, Blk.new _ _ _, (Below.refl _ _).alloc (Nat.le_refl _) _⟩
 clear hW
 have NG4 := Lib.hid (show W.heap.size < w2.heap.size ∧ g < w2.heap.size from ⟨KR.lt, R2.lt⟩)
 replace KR := KR.below' b3
 replace R2 := R2.below b3
 replace b0 := b0.trans (b3.mono b0.size)
 clear b3
 obtain ⟨g4, hg4⟩ : ∃ g, w2.heap.size = g := ⟨_, rfl⟩
 rw [hg4] at K4 NG4 ⊢
 clear hg4
 refine wpSeq_store_row rfl 59 _ _ rfl g4 #[.pointer (some ⟨g, 0, none⟩)] rfl rfl _ _ K4 info_reader (by rw [hZ4]; rfl) (by simp [Value.oneCell']) ?_
 simp only [Act.put]
 refine wpSeq_nil ?_
 refine (by assumption : ∀ (a : Act) (w : World), _ → _) _ _ ?_
 have G4 := grown_one w3 g4 #[.pointer (some ⟨g, 0, none⟩)]
 replace R2 := R2.other G4 NG4.out.2
 replace K4 := K4.row #[.pointer (some ⟨g, 0, none⟩)]
 replace KR : Blk (w3.setRow g4 #[.pointer (some ⟨g, 0, none⟩)]) W.heap.size 28 Z := KR.rowFar (by have := NG4.out; omega) _
 have gg4 : W.heap.size ≤ g4 := by have := NG4.out; omega
 replace b0 := below_setRow b0 gg4 #[.pointer (some ⟨g, 0, none⟩)]
 generalize World.setRow w3 g4 _ = w4 at *
 clear G4 gg4
 have bd := below_drew (Below.refl w4.heap.size w4)
 replace K4 := K4.below' bd
 replace KR := KR.below' bd
 replace R2 := R2.below bd
 replace b0 := b0.trans (bd.mono b0.size)
 clear bd
 go_upto_region 2 with fail
 rename_i aK
 refine wp_region_S (S := fun w' => Blk w' g4 59 #[.pointer (some ⟨g, 0, none⟩)]) (by kernel_rfl) ?_
 generalize w4.drew = w5 at *
 have hS := K4
 refine wpAnyS_takeL 0 (v := .agg #[.pointer (some ⟨g, 0, none⟩)]) rfl (by kernel_rfl) (by kernel_rfl) (by kernel_rfl) (fun _ _ _ H => H) (show YieldsIf _ _ _ _ (.agg #[.pointer (some ⟨g, 0, none⟩)]) _ from yieldsIf_row_wanted (S := fun w' => Blk w' g4 59 #[.pointer (some ⟨g, 0, none⟩)]) rfl 59 _ rfl g4 rfl 59 _ _ (fun _ h => h) Tryz.underlying59 rfl info_reader) hS ?_
 simp only [AP]
 refine wpAnyS_takeL 1 (v := .agg #[.pointer (some ⟨g, 0, none⟩)]) rfl (by kernel_rfl) (by kernel_rfl) (by kernel_rfl) (fun _ _ _ H => H) (show YieldsIf _ _ _ _ (.agg #[.pointer (some ⟨g, 0, none⟩)]) _ from yieldsIf_row_wanted (S := fun w' => Blk w' g4 59 #[.pointer (some ⟨g, 0, none⟩)]) rfl 59 _ rfl g4 rfl 59 _ _ (fun _ h => h) Tryz.underlying59 rfl info_reader) hS ?_
 simp only [AP]
 clear hS
 refine gstep 2 rfl rfl (by kernel_rfl) ?_
 unfold Oper.wp execOp
 go_simp
 refine (PC.out g w5 _ R2).mono ?_
 rintro _ w6 ⟨rfl, R6, GG⟩
 replace K4 : Blk w6 g4 59 #[.pointer (some ⟨g, 0, none⟩)] := (GG.block _ K4.lt (fun e => by have := Option.some.inj e; have := NG4.out; omega)).trans K4
 replace KR : Blk w6 W.heap.size 28 Z := (GG.block _ KR.lt (fun e => by have := Option.some.inj e; have := NG.out; omega)).trans KR
 have ng : W.heap.size ≤ g := Nat.le_of_lt NG.out
 replace b0 := below_gb b0 GG ng b0.size
 clear ng GG PC R2
 refine ⟨K4, ?_⟩
 refine gstep 3 rfl rfl (by kernel_rfl) ?_
 unfold Oper.wp execOp
 go_simp
 refine (WC.out g w6 _ R6).mono ?_
 rintro _ w7 ⟨rfl, GG⟩
 replace K4 : Blk w7 g4 59 #[.pointer (some ⟨g, 0, none⟩)] := (GG.block _ K4.lt (fun e => by have := Option.some.inj e; have := NG4.out; omega)).trans K4
 replace KR : Blk w7 W.heap.size 28 Z := (GG.block _ KR.lt (fun e => by have := Option.some.inj e; have := NG.out; omega)).trans KR
 have ng : W.heap.size ≤ g := Nat.le_of_lt NG.out
 replace b0 := below_gb b0 GG ng b0.size
 clear ng GG WC R6
 refine ⟨K4, ?_⟩
 have hS := K4
 refine wpAnyS_takeL 4 (v := .agg XV) rfl (by kernel_rfl) (by kernel_rfl) (by kernel_rfl) (fun _ _ _ H => H) (Or.inl ⟨by rfl, fun w' hw' => by go_simp⟩) hS ?_
 simp only [AP]
 refine wpAnyS_takeL 5 (v := .int .i64 (f : Int)) rfl (by kernel_rfl) (by kernel_rfl) (by kernel_rfl) (fun _ _ _ H => H) (Or.inl ⟨by rfl, fun w' hw' => by go_simp⟩) hS ?_
 simp only [AP]
 clear hS
 refine gstep 6 rfl rfl (by kernel_rfl) (wp_store_row 28 _ _ rfl W.heap.size XV rfl rfl _ _ KR xi (by rw [hZ, xz]) x1.out ⟨?_, ?_⟩)
 · exact K4.rowFar (by have := NG4.out; omega) _
 simp only [Act.put]
 replace K4 : Blk (w7.setRow W.heap.size XV) g4 59 #[.pointer (some ⟨g, 0, none⟩)] := K4.rowFar (by have := NG4.out; omega) _
 have hS := K4
 refine wpAnyS_takeL 7 (v := .int .i64 (f : Int)) rfl (by kernel_rfl) (by kernel_rfl) (by kernel_rfl) (fun _ _ _ H => H) (yieldsIf_assign rfl _ rfl (.int .i64 (f : Int)) rfl) hS ?_
 simp only [AP]
 clear hS
 refine wpAnyS_done (by kernel_rfl) ?_ _
 refine aK _ _ ?_
 clear aK
 go_wp2
 exact bodyPost_ret (results_cell_tmp rfl _ _ _ 28 _ (0, 0) _ _ rfl (Blk.row KR _) Tryz.underlying28 rfl xi rfl) rfl ⟨rfl, below_setRow b0 (Nat.le_refl _) _⟩
end Go.Proofs.YtegbnadnodlalaaGreatDoor
