/- The statements' Awake (printed by gen15/fi.py). -/
import Derived.Test.YtdmhngkedgkndaaDoorF6a
namespace Go.Proofs.YtdmhngkedgkndaaDoor
open Go.RowKit
theorem cell_list {w : World} {g : Nat} {t : TypeId} {L : List Nat} (K : Blk w g t (Iv .u8 (NI L))) (i x : Nat) (h : i < L.length) (e : L.getD i 0 = x) : w.cell? ⟨g, i, none⟩ = some (.int .u8 (x : Int)) := by
  rw [K.cell, NI_get _ _ h, ← e]
  congr 2
  rw [List.getD_eq_getElem?_getD, List.getElem?_eq_getElem h]
  rfl
theorem key_guard : Tryd.prog.eqGuardType Tryd.prog.depth 28 = false := by kernel_rfl
theorem yieldsIf_eqk {ops : Array Oper} {S : World → Prop} {o : Oper} {a : Act} (hgd : Region.wanted o (yielded ops a.tmps) = true) (x y : Operand) (ho : o.op = .binOp .eql 28 x y 28) (l m : List Nat) (hl : l.length = 32) (hm : m.length = 32) (hx : a.eval x = .agg (Iv .u8 (NI l))) (hy : a.eval y = .agg (Iv .u8 (NI m))) (b : Bool) (hb : decide (NI l = NI m) = b) : YieldsIf Tryd.prog ops S o (.bool b) a :=
  yieldsIf_eql hgd _ _ x y ho _ _ hx hy key_guard b fun w => by rw [eql_keys _ _ (by rw [NI_length, hl]) (by rw [NI_length, hm]), hb]
theorem yieldsIf_eqs {ops : Array Oper} {S : World → Prop} {o : Oper} {a : Act} (hgd : Region.wanted o (yielded ops a.tmps) = true) (x y : Operand) (ho : o.op = .binOp .eql 28 x y 28) (l : List Nat) (hl : l.length = 32) (hx : a.eval x = .agg (Iv .u8 (NI l))) (hy : a.eval y = .agg (Iv .u8 (NI l))) : YieldsIf Tryd.prog ops S o (.bool true) a :=
  yieldsIf_eqk hgd x y ho l l hl hl hx hy true (decide_eq_true rfl)
theorem yieldsIf_nek {ops : Array Oper} {S : World → Prop} {o : Oper} {a : Act} (hgd : Region.wanted o (yielded ops a.tmps) = true) (x y : Operand) (ho : o.op = .binOp .neq 28 x y 28) (l m : List Nat) (hl : l.length = 32) (hm : m.length = 32) (hx : a.eval x = .agg (Iv .u8 (NI l))) (hy : a.eval y = .agg (Iv .u8 (NI m))) (h : l ≠ m) : YieldsIf Tryd.prog ops S o (.bool true) a := by
  refine Or.inl ⟨hgd, fun w _ => ?_⟩
  have e : NI l ≠ NI m := fun h2 => h (NI_inj h2)
  simp only [execOp, ho, hx, hy, Sem.run_bind, Sem.run_pure, Result.andThen_ok, run_eqGuard_agg (hm := key_guard), run_neq_struct, eq_keys _ _ (show (NI l).length = 32 by rw [NI_length, hl]) (show (NI m).length = 32 by rw [NI_length, hm]), decide_eq_false e, Bool.not_false]
def hsS : ByteArray := ⟨#[104, 115]⟩
def chsS : ByteArray := ⟨#[99, 32, 104, 115, 32, 116, 114, 97, 102, 102, 105, 99]⟩
def shsS : ByteArray := ⟨#[115, 32, 104, 115, 32, 116, 114, 97, 102, 102, 105, 99]⟩
theorem side_hs : sideS cS hsS = chsS ∧ sideS sS hsS = shsS := ⟨by rfl, by rfl⟩
/-- The chapter's example, and two secrets, by the kernel. -/
theorem first_num : (beginL []).take 4 = [0x33, 0xad, 0x0a, 0x1c] := by decide +kernel
theorem sides_ne : labL (beginL []) chsS (sha cuT sqT []) 32 ≠ labL (beginL []) shsS (sha cuT sqT []) 32 := by decide +kernel
theorem cli_ne : cliL [] (beginL []) hsS ≠ srvL [] (beginL []) hsS := by
  unfold cliL srvL
  rw [side_hs.1, side_hs.2]
  exact sides_ne
theorem first_get (i x : Nat) (h : i < 4) (hx : [0x33, 0xad, 0x0a, 0x1c].getD i 0 = x) : (beginL []).getD i 0 = x := by
  rw [← hx, ← first_num, List.getD_eq_getElem?_getD, List.getD_eq_getElem?_getD, List.getElem?_take, if_pos h]
set_option maxHeartbeats 8000000 in
set_option maxRecDepth 100000 in
theorem awake_c (W : World) (T : Tab W cuT) (Q : Sq W sqT) (R : Ref W cuT sqT) : Calls Tryd.prog 7 #[] W fun e w' => e = .returned (.bool true) ∧ Below W.heap.size W w' := by
  have NC := Lib.hid (fun (w : World) (b : Below W.heap.size W w) => new_c [] none 0 0 w (T.below b) (Q.below b) (SB.nil w none 0) Bytes.nil (Nat.zero_le _))
  have TC := Lib.hid (fun (w : World) (b : Below W.heap.size W w) (B g : Nat) (v : Value) (h : SS B w g v [] (beginL [])) => traf_c B g v [] (beginL []) hsS w h (T.below b) (Q.below b) (Nat.zero_le _) (by decide))
  have RC := Lib.hid (fun (w : World) (b : Below W.heap.size W w) => rsha_any w cuT sqT [] Bytes.nil (.slice none 0 0) (SB.nil w none 0) (by decide) (R.below b))
  have BC := Lib.hid (fun (w : World) (b : Below W.heap.size W w) => begin_c [] none 0 0 w (R.below b) (SB.nil w none 0) Bytes.nil (Nat.zero_le _))
  have DC := Lib.hid (fun (w : World) (b : Below W.heap.size W w) (g : Nat) (hc : SB w (.slice (some ⟨g, 0, none⟩) 32 32) (sha cuT sqT [])) => derive_c (beginL []) (sha cuT sqT []) chsS (some ⟨g, 0, none⟩) 32 32 w (R.below b) (beginL_length _) (beginL_bytes _) hc (sha_bytes _ _ _) (by decide) (by rw [sha_length]; decide))
  have E0 := first_get 0 0x33 (by decide) rfl
  have E1 := first_get 1 0xad (by decide) rfl
  have E2 := first_get 2 0x0a (by decide) rfl
  have E3 := first_get 3 0x1c (by decide) rfl
  have NE := Lib.hid cli_ne
  rw [← side_hs.1] at DC
  rw [show labL (beginL []) (sideS cS hsS) (sha cuT sqT []) 32 = cliL [] (beginL []) hsS from rfl, side_hs.1] at DC
  have lC := Lib.hid (show (cliL [] (beginL []) hsS).length = 32 from labL_length _ _ _ _)
  have lV := Lib.hid (show (srvL [] (beginL []) hsS).length = 32 from labL_length _ _ _ _)
  have lB := beginL_length []
  have lX := Lib.hid (sha_length cuT sqT [])
  generalize cliL [] (beginL []) hsS = CL at *
  generalize srvL [] (beginL []) hsS = SV at *
  generalize sha cuT sqT [] = X at *
  generalize beginL [] = BL at *
  have EE := Lib.hid (And.intro E0 (And.intro E1 (And.intro E2 E3)))
  replace lB := Lib.hid lB
  clear T Q R E0 E1 E2 E3
  go_enter Tryd.func7, Tryd.ntmps7
  go_upto_region 0 with fail
  rename_i aK
  refine wp_region_seq ?_
  refine wpSeq_yield (S := fun _ => True) (yieldsIf_assign rfl _ rfl (.bool false) rfl) trivial ?_
  simp only [AP]
  refine wpSeq_nil ?_
  refine (by assumption : ∀ (a : Act) (w : World), _ → _) _ _ ?_
  go_upto_region 1 with fail
  rename_i aK
  refine wp_region_seq ?_
  refine wpSeq_wp rfl ?_
  unfold Oper.wp execOp
  go_simp
  refine (NC.out W (Below.refl _ _)).mono ?_
  rintro _ w2 ⟨g, rfl, R2, b⟩
  clear NC
  go_simp
  refine wpSeq_wp rfl ?_
  unfold Oper.wp execOp
  go_simp
  refine (TC.out w2 b _ g _ R2).mono ?_
  rintro _ w3 ⟨rfl, b3⟩
  replace b := b.trans (b3.mono b.size)
  clear b3 TC R2
  go_simp
  refine wpSeq_yield (S := fun _ => True) (yieldsIf_move rfl _ rfl (.tuple #[.agg (Iv .u8 (NI CL)), .agg (Iv .u8 (NI SV))]) rfl) trivial ?_
  simp only [AP]
  refine wpSeq_yield (S := fun _ => True) (v := .agg (Iv .u8 (NI CL))) (Or.inl ⟨by rfl, fun w' hw' => by go_simp⟩) trivial ?_
  simp only [AP]
  refine wpSeq_yield (S := fun _ => True) (v := .agg (Iv .u8 (NI SV))) (Or.inl ⟨by rfl, fun w' hw' => by go_simp⟩) trivial ?_
  simp only [AP]
  refine wpSeq_wp rfl ?_
  unfold Oper.wp execOp
  go_simp
  refine wpSeq_wp rfl ?_
  unfold Oper.wp execOp
  go_simp
  generalize hW : World.alloc (World.alloc w3 _) _ = wA
  obtain ⟨Z1, Z2, hZ1, hZ2, J1, J2, bA⟩ : ∃ Z1 Z2 : Array Value, Z1.size = 32 ∧ Z2.size = 32 ∧ Blk wA w3.heap.size 28 Z1 ∧ Blk wA (w3.heap.size + 1) 28 Z2 ∧ Below w3.heap.size w3 wA := by
    rw [← hW]
    exact ⟨_, _, rfl, rfl, two_alloc w3 _ _ _ _⟩
  clear hW
  refine wpSeq_store_row rfl 28 _ _ rfl w3.heap.size (Iv .u8 (NI CL)) rfl rfl _ _ J1 (info_k32 CL lC.out) (by rw [Iv_size, NI_length, lC.out]; exact hZ1) (u8s_one _) ?_
  simp only [Act.put]
  have J1b := J1.row (Iv .u8 (NI CL))
  have J2b : Blk (wA.setRow w3.heap.size (Iv .u8 (NI CL))) (w3.heap.size + 1) 28 Z2 := J2.rowFar (by omega) _
  have bB := below_setRow bA (Nat.le_refl _) (Iv .u8 (NI CL))
  generalize World.setRow wA _ _ = wB at *
  clear J1 J2 bA hZ1
  refine wpSeq_store_row rfl 28 _ _ rfl (w3.heap.size + 1) (Iv .u8 (NI SV)) rfl rfl _ _ J2b (info_k32 SV lV.out) (by rw [Iv_size, NI_length, lV.out]; exact hZ2) (u8s_one _) ?_
  simp only [Act.put]
  have J1 : Blk (wB.setRow (w3.heap.size + 1) (Iv .u8 (NI SV))) w3.heap.size 28 (Iv .u8 (NI CL)) := J1b.rowFar (by omega) _
  have J2 := J2b.row (Iv .u8 (NI SV))
  have bC := below_setRow bB (Nat.le_succ _) (Iv .u8 (NI SV))
  generalize World.setRow wB _ _ = w4 at *
  clear J1b J2b bB hZ2
  replace b := b.trans (bC.mono b.size)
  clear bC
  obtain ⟨g1, hg1⟩ : ∃ k, w3.heap.size = k := ⟨_, rfl⟩
  rw [hg1] at J1 J2 ⊢
  clear hg1
  refine wpSeq_nil ?_
  refine (by assumption : ∀ (a : Act) (w : World), _ → _) _ _ ?_
  go_upto_region 2 with fail
  rename_i aK
  refine wp_region_seq ?_
  refine wpSeq_wp rfl ?_
  unfold Oper.wp execOp
  go_simp
  refine (RC.out w4 b).mono ?_
  rintro _ w5 ⟨rfl, b5⟩
  replace J1 := J1.below' b5
  replace J2 := J2.below' b5
  replace b := b.trans (b5.mono b.size)
  clear b5 RC
  go_simp
  refine wpSeq_wp rfl ?_
  unfold Oper.wp execOp
  go_simp
  refine wpSeq_store_row rfl 28 _ _ rfl w5.heap.size (Iv .u8 (NI X)) rfl rfl _ _ (Blk.new w5 _ _) (info_k32 X lX.out) (size_32 (rfl : (List.replicate 32 0).length = 32) lX.out) (u8s_one _) ?_
  simp only [Act.put]
  refine wpSeq_nil ?_
  refine (by assumption : ∀ (a : Act) (w : World), _ → _) _ _ ?_
  generalize hwx : World.setRow _ w5.heap.size _ = w6
  have FX : Blk w6 w5.heap.size 28 (Iv .u8 (NI X)) ∧ Below w5.heap.size w5 w6 := by
    rw [← hwx]
    exact one_row _ _ _ _
  clear hwx
  obtain ⟨KX, bx⟩ := FX
  replace J1 := J1.below' bx
  replace J2 := J2.below' bx
  replace b := b.trans (bx.mono b.size)
  clear bx
  obtain ⟨g3, hg3⟩ : ∃ k, w5.heap.size = k := ⟨_, rfl⟩
  rw [hg3] at KX ⊢
  clear hg3
  go_upto_region 3 with fail
  rename_i aK
  refine wp_region_seq ?_
  refine wpSeq_wp rfl ?_
  unfold Oper.wp execOp
  go_simp
  refine (BC.out w6 b).mono ?_
  rintro _ w7 ⟨rfl, b7⟩
  replace J1 := J1.below' b7
  replace J2 := J2.below' b7
  replace KX := KX.below' b7
  replace b := b.trans (b7.mono b.size)
  clear b7 BC
  go_simp
  refine wpSeq_wp rfl ?_
  unfold Oper.wp execOp
  go_simp
  refine wpSeq_store_row rfl 28 _ _ rfl w7.heap.size (Iv .u8 (NI BL)) rfl rfl _ _ (Blk.new w7 _ _) (info_k32 BL lB.out) (size_32 (rfl : (List.replicate 32 0).length = 32) lB.out) (u8s_one _) ?_
  simp only [Act.put]
  refine wpSeq_nil ?_
  refine (by assumption : ∀ (a : Act) (w : World), _ → _) _ _ ?_
  generalize hwx : World.setRow _ w7.heap.size _ = w8
  have FX : Blk w8 w7.heap.size 28 (Iv .u8 (NI BL)) ∧ Below w7.heap.size w7 w8 := by
    rw [← hwx]
    exact one_row _ _ _ _
  clear hwx
  obtain ⟨KB, bx⟩ := FX
  replace J1 := J1.below' bx
  replace J2 := J2.below' bx
  replace KX := KX.below' bx
  replace b := b.trans (bx.mono b.size)
  clear bx
  obtain ⟨g4, hg4⟩ : ∃ k, w7.heap.size = k := ⟨_, rfl⟩
  rw [hg4] at KB ⊢
  clear hg4
  have bd := below_drew (Below.refl w8.heap.size w8)
  replace J1 := J1.below' bd
  replace J2 := J2.below' bd
  replace KX := KX.below' bd
  replace KB := KB.below' bd
  replace b := b.trans (bd.mono b.size)
  clear bd
  go_upto_region 4 with fail
  rename_i aK
  refine wp_region_S (S := fun w' => Below w8.drew.heap.size w8.drew w') (by kernel_rfl) ?_
  generalize w8.drew = w9 at *
  have hS := Below.refl w9.heap.size w9
  have CX := sb_key KX lX.out
  have DC9 := Lib.hid (DC.out w9 b g3 CX)
  have R1 := Lib.hid (fun (w' : World) (h : Below w9.heap.size w9 w') => J1.below' h)
  have R2 := Lib.hid (fun (w' : World) (h : Below w9.heap.size w9 w') => J2.below' h)
  have R4 := Lib.hid (fun (w' : World) (h : Below w9.heap.size w9 w') => KB.below' h)
  have y0 := Lib.hid (fun (w' : World) (h : Below w9.heap.size w9 w') => cell_list (KB.below' h) 0 0x33 (by rw [lB.out]; decide) EE.out.1)
  have y1 := Lib.hid (fun (w' : World) (h : Below w9.heap.size w9 w') => cell_list (KB.below' h) 1 0xad (by rw [lB.out]; decide) EE.out.2.1)
  have y2 := Lib.hid (fun (w' : World) (h : Below w9.heap.size w9 w') => cell_list (KB.below' h) 2 0x0a (by rw [lB.out]; decide) EE.out.2.2.1)
  have y3 := Lib.hid (fun (w' : World) (h : Below w9.heap.size w9 w') => cell_list (KB.below' h) 3 0x1c (by rw [lB.out]; decide) EE.out.2.2.2)
  clear J1 J2 KX KB CX DC EE
  refine wpAnyS_takeL 0 (v := .pointer (some ⟨g4, 0, none⟩)) rfl (by kernel_rfl) (by kernel_rfl) (by kernel_rfl) (fun _ _ _ H => H) (Or.inl ⟨by rfl, fun w' hw' => by (go_simp)⟩) hS ?_
  simp only [AP]
  refine wpAnyS_takeL 1 (v := .int .u8 51) rfl (by kernel_rfl) (by kernel_rfl) (by kernel_rfl) (fun _ _ _ H => H) (Or.inl ⟨by rfl, fun w' hw' => by (have cc : w'.cell? ⟨g4, 0, none⟩ = some (.int .u8 51) := y0.out w' hw'; go_simp)⟩) hS ?_
  simp only [AP]
  refine wpAnyS_takeL 2 (v := .bool true) rfl (by kernel_rfl) (by kernel_rfl) (by kernel_rfl) (fun _ _ _ H => H) (Or.inl ⟨by rfl, fun w' hw' => by (go_simp)⟩) hS ?_
  simp only [AP]
  refine wpAnyS_takeL 3 (v := .bool true) rfl (by kernel_rfl) (by kernel_rfl) (by kernel_rfl) (fun _ _ _ H => H) (yieldsIf_move rfl _ rfl (.bool true) rfl) hS ?_
  simp only [AP]
  refine wpAnyS_takeL 4 (v := .pointer (some ⟨g4, 1, none⟩)) rfl (by kernel_rfl) (by kernel_rfl) (by kernel_rfl) (fun _ _ _ H => H) (Or.inl ⟨by rfl, fun w' hw' => by (go_simp)⟩) hS ?_
  simp only [AP]
  refine wpAnyS_takeL 5 (v := .int .u8 173) rfl (by kernel_rfl) (by kernel_rfl) (by kernel_rfl) (fun _ _ _ H => H) (Or.inl ⟨by rfl, fun w' hw' => by (have cc : w'.cell? ⟨g4, 1, none⟩ = some (.int .u8 173) := y1.out w' hw'; go_simp)⟩) hS ?_
  simp only [AP]
  refine wpAnyS_takeL 6 (v := .bool true) rfl (by kernel_rfl) (by kernel_rfl) (by kernel_rfl) (fun _ _ _ H => H) (Or.inl ⟨by rfl, fun w' hw' => by (go_simp)⟩) hS ?_
  simp only [AP]
  refine wpAnyS_takeL 7 (v := .bool true) rfl (by kernel_rfl) (by kernel_rfl) (by kernel_rfl) (fun _ _ _ H => H) (yieldsIf_pick rfl _ _ _ rfl true rfl (.bool true) rfl) hS ?_
  simp only [AP]
  refine wpAnyS_takeL 8 (v := .bool true) rfl (by kernel_rfl) (by kernel_rfl) (by kernel_rfl) (fun _ _ _ H => H) (yieldsIf_move rfl _ rfl (.bool true) rfl) hS ?_
  simp only [AP]
  refine wpAnyS_takeL 9 (v := .pointer (some ⟨g4, 2, none⟩)) rfl (by kernel_rfl) (by kernel_rfl) (by kernel_rfl) (fun _ _ _ H => H) (Or.inl ⟨by rfl, fun w' hw' => by (go_simp)⟩) hS ?_
  simp only [AP]
  refine wpAnyS_takeL 10 (v := .int .u8 10) rfl (by kernel_rfl) (by kernel_rfl) (by kernel_rfl) (fun _ _ _ H => H) (Or.inl ⟨by rfl, fun w' hw' => by (have cc : w'.cell? ⟨g4, 2, none⟩ = some (.int .u8 10) := y2.out w' hw'; go_simp)⟩) hS ?_
  simp only [AP]
  refine wpAnyS_takeL 11 (v := .bool true) rfl (by kernel_rfl) (by kernel_rfl) (by kernel_rfl) (fun _ _ _ H => H) (Or.inl ⟨by rfl, fun w' hw' => by (go_simp)⟩) hS ?_
  simp only [AP]
  refine wpAnyS_takeL 12 (v := .bool true) rfl (by kernel_rfl) (by kernel_rfl) (by kernel_rfl) (fun _ _ _ H => H) (yieldsIf_pick rfl _ _ _ rfl true rfl (.bool true) rfl) hS ?_
  simp only [AP]
  refine wpAnyS_takeL 13 (v := .bool true) rfl (by kernel_rfl) (by kernel_rfl) (by kernel_rfl) (fun _ _ _ H => H) (yieldsIf_move rfl _ rfl (.bool true) rfl) hS ?_
  simp only [AP]
  refine wpAnyS_takeL 14 (v := .pointer (some ⟨g4, 3, none⟩)) rfl (by kernel_rfl) (by kernel_rfl) (by kernel_rfl) (fun _ _ _ H => H) (Or.inl ⟨by rfl, fun w' hw' => by (go_simp)⟩) hS ?_
  simp only [AP]
  refine wpAnyS_takeL 15 (v := .int .u8 28) rfl (by kernel_rfl) (by kernel_rfl) (by kernel_rfl) (fun _ _ _ H => H) (Or.inl ⟨by rfl, fun w' hw' => by (have cc : w'.cell? ⟨g4, 3, none⟩ = some (.int .u8 28) := y3.out w' hw'; go_simp)⟩) hS ?_
  simp only [AP]
  refine wpAnyS_takeL 16 (v := .bool true) rfl (by kernel_rfl) (by kernel_rfl) (by kernel_rfl) (fun _ _ _ H => H) (Or.inl ⟨by rfl, fun w' hw' => by (go_simp)⟩) hS ?_
  simp only [AP]
  refine wpAnyS_takeL 17 (v := .bool true) rfl (by kernel_rfl) (by kernel_rfl) (by kernel_rfl) (fun _ _ _ H => H) (yieldsIf_pick rfl _ _ _ rfl true rfl (.bool true) rfl) hS ?_
  simp only [AP]
  refine wpAnyS_takeL 18 (v := .bool true) rfl (by kernel_rfl) (by kernel_rfl) (by kernel_rfl) (fun _ _ _ H => H) (yieldsIf_move rfl _ rfl (.bool true) rfl) hS ?_
  simp only [AP]
  refine wpAnyS_takeL 19 (v := .agg (Iv .u8 (NI CL))) rfl (by kernel_rfl) (by kernel_rfl) (by kernel_rfl) (fun _ _ _ H => H) (show YieldsIf _ _ _ _ (.agg (Iv .u8 (NI CL))) _ from yieldsIf_row_wanted (S := fun w' => Below w9.heap.size w9 w') rfl 28 _ rfl (g1) rfl 28 _ _ R1.out Tryd.underlying28 rfl (info_k32 CL lC.out)) hS ?_
  simp only [AP]
  refine wpAnyS_takeL 20 (v := .agg (Iv .u8 (NI BL))) rfl (by kernel_rfl) (by kernel_rfl) (by kernel_rfl) (fun _ _ _ H => H) (show YieldsIf _ _ _ _ (.agg (Iv .u8 (NI BL))) _ from yieldsIf_row_wanted (S := fun w' => Below w9.heap.size w9 w') rfl 28 _ rfl (g4) rfl 28 _ _ R4.out Tryd.underlying28 rfl (info_k32 BL lB.out)) hS ?_
  simp only [AP]
  refine wpAnyS_takeL 21 (v := .slice (some ⟨g3, 0, none⟩) 32 32) rfl (by kernel_rfl) (by kernel_rfl) (by kernel_rfl) (fun _ _ _ H => H) (Or.inl ⟨by rfl, fun w' hw' => by (go_simp)⟩) hS ?_
  simp only [AP]
  clear y0 y1 y2 y3
  refine gstep 22 rfl rfl (by kernel_rfl) ?_
  unfold Oper.wp execOp
  go_simp
  refine DC9.out.mono ?_
  rintro _ w10 ⟨rfl, b10⟩
  have hS2 := hS.trans (b10.mono hS.size)
  replace b := b.trans (b10.mono b.size)
  clear b10 hS DC9
  refine ⟨hS2, ?_⟩
  refine wpAnyS_takeL 23 (v := .bool true) rfl (by kernel_rfl) (by kernel_rfl) (by kernel_rfl) (fun _ _ _ H => H) (yieldsIf_eqs rfl _ _ rfl CL lC.out rfl rfl) hS2 ?_
  simp only [AP]
  refine wpAnyS_takeL 24 (v := .bool true) rfl (by kernel_rfl) (by kernel_rfl) (by kernel_rfl) (fun _ _ _ H => H) (yieldsIf_pick rfl _ _ _ rfl true rfl (.bool true) rfl) hS2 ?_
  simp only [AP]
  refine wpAnyS_takeL 25 (v := .bool true) rfl (by kernel_rfl) (by kernel_rfl) (by kernel_rfl) (fun _ _ _ H => H) (yieldsIf_move rfl _ rfl (.bool true) rfl) hS2 ?_
  simp only [AP]
  refine wpAnyS_takeL 26 (v := .agg (Iv .u8 (NI CL))) rfl (by kernel_rfl) (by kernel_rfl) (by kernel_rfl) (fun _ _ _ H => H) (show YieldsIf _ _ _ _ (.agg (Iv .u8 (NI CL))) _ from yieldsIf_row_wanted (S := fun w' => Below w9.heap.size w9 w') rfl 28 _ rfl (g1) rfl 28 _ _ R1.out Tryd.underlying28 rfl (info_k32 CL lC.out)) hS2 ?_
  simp only [AP]
  refine wpAnyS_takeL 27 (v := .agg (Iv .u8 (NI SV))) rfl (by kernel_rfl) (by kernel_rfl) (by kernel_rfl) (fun _ _ _ H => H) (show YieldsIf _ _ _ _ (.agg (Iv .u8 (NI SV))) _ from yieldsIf_row_wanted (S := fun w' => Below w9.heap.size w9 w') rfl 28 _ rfl (g1 + 1) rfl 28 _ _ R2.out Tryd.underlying28 rfl (info_k32 SV lV.out)) hS2 ?_
  simp only [AP]
  refine wpAnyS_takeL 28 (v := .bool true) rfl (by kernel_rfl) (by kernel_rfl) (by kernel_rfl) (fun _ _ _ H => H) (yieldsIf_nek rfl _ _ rfl CL SV lC.out lV.out rfl rfl NE.out) hS2 ?_
  simp only [AP]
  refine wpAnyS_takeL 29 (v := .bool true) rfl (by kernel_rfl) (by kernel_rfl) (by kernel_rfl) (fun _ _ _ H => H) (yieldsIf_pick rfl _ _ _ rfl true rfl (.bool true) rfl) hS2 ?_
  simp only [AP]
  refine wpAnyS_takeL 30 (v := .bool true) rfl (by kernel_rfl) (by kernel_rfl) (by kernel_rfl) (fun _ _ _ H => H) (yieldsIf_assign rfl _ rfl (.bool true) rfl) hS2 ?_
  simp only [AP]
  refine wpAnyS_done (by kernel_rfl) ?_ _
  refine (by assumption : ∀ (a : Act) (w : World), _ → _) _ _ ?_
  clear aK
  go_wp2
  go_ret
  exact ⟨rfl, b⟩
end Go.Proofs.YtdmhngkedgkndaaDoor
