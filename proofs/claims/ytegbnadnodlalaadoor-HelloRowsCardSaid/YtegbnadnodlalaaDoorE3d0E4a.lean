/- The law's Awake: a message, and a certificate that is vouched for (printed by gen14/ef.py). The reference's Message; law HelloMessages by contract (printed by gen14/eg.py). -/
import Derived.Test.YtegbnadnodlalaaDoorE3c
namespace Go.Proofs.YtegbnadnodlalaaDoor
open Go.RowKit
open Ed
theorem yieldsIf_build {ops : Array Oper} {S : World → Prop} {o : Oper} {a : Act} (hgd : Region.wanted o (yielded ops a.tmps) = true) (t : TypeId) (parts : Array (Nat × Operand)) (ho : o.op = .build t parts) (cells : Array Value) (h : Tryd.prog.built t ((parts.map fun (i, x) => (i, a.eval x)).toList) = some cells) : YieldsIf Tryd.prog ops S o (.agg cells) a := by
  refine Or.inl ⟨hgd, fun w _ => ?_⟩
  simp only [execOp, ho, Sem.run_bind, run_build w t _ cells h, Result.andThen_ok, Sem.run_pure]
theorem built_one : Tryd.prog.built 34 [(0, .int .u8 1)] = some (Iv .u8 (keyOf 1)) := by kernel_rfl
theorem built_two : Tryd.prog.built 34 [(0, .int .u8 2)] = some (Iv .u8 (NI (kb 2))) := by kernel_rfl
def mL : List Nat := [15, 0, 0, 1, 120]
theorem msg_x : msgF 15 [120] = (0, mL) := by decide
theorem row_x (W : World) : W.alloc (.cells #[.int .u8 120] 5) = W.alloc (.cells (vals [120]).toArray 5) := rfl
theorem str_mL : (Value.string ⟨#[15, 0, 0, 1, 120]⟩) = .string (strB mL) := by kernel_rfl
set_option maxHeartbeats 8000000 in
set_option maxRecDepth 100000 in
theorem awake14_c (cu sq : Nat → Nat) (W : World) (HW : SW cu sq W) : Calls Tryd.prog 6 #[] W fun e w' => e = .returned (.bool true) ∧ Below W.heap.size W w' := by
  have MC := fun (p : Option Addr) (c : Nat) (w : World) (h : SB w (.slice p 1 c) [120]) => msg_c 15 [120] p 1 c (by decide) w h
  rw [msg_x] at MC
  replace MC := Lib.hid MC
  have k2 := kb_length 2
  have VO := Lib.hid (fun (w : World) (h : SW cu sq w) => vouch_c cu sq 1 ⟨#[97]⟩ (kb 2) k2 (kb_by 2) (by decide) (by decide) w h)
  have VD := Lib.hid (fun (w : World) (h : SW cu sq w) => vouched_c cu sq 1 ⟨#[97]⟩ (kb 2) k2 (kb_by 2) (by decide) w h)
  have PC := Lib.hid (fun (w : World) (h : SW cu sq w) => public_n cu sq 1 (pubN cu sq 1) rfl w h.T h.Q h.X h.Y h.D)
  have ls : (kb (firN cu sq 1 (sgnL ⟨#[97]⟩ (kb 2))) ++ kb (secN cu sq 1 (sgnL ⟨#[97]⟩ (kb 2)))).length = 64 := by rw [List.length_append, kb_length, kb_length]
  generalize kb (firN cu sq 1 (sgnL ⟨#[97]⟩ (kb 2))) ++ kb (secN cu sq 1 (sgnL ⟨#[97]⟩ (kb 2))) = s at *
  have CZ := info_cerV ⟨#[97]⟩ k2 ls
  have cz := cerV_size ⟨#[97]⟩ k2 ls
  have C1 := Lib.hid (cerV_one ⟨#[97]⟩ (kb 2) s)
  generalize cerV ⟨#[97]⟩ (kb 2) s = CV at *
  generalize pubN cu sq 1 = pk at *
  have HW := Lib.hid HW
  have B2 := Lib.hid built_two
  generalize kb 2 = K2 at *
  have B1 := Lib.hid built_one
  generalize keyOf 1 = K1 at *
  clear k2 ls
  go_enter Tryd.func6, Tryd.ntmps6
  go_upto_region 1 with fail
  rename_i aK
  refine wp_region_seq ?_
  refine wpSeq_wp rfl ?_
  unfold Oper.wp execOp
  go_simp
  rw [row_x]
  have KX := Blk.new W 5 (vals [120]).toArray
  have b0 := (Below.refl W.heap.size W).alloc (Nat.le_refl _) (.cells (vals [120]).toArray 5)
  generalize World.alloc W _ = w1 at *
  refine wpSeq_wp rfl (wp_mark _ rfl W.heap.size 1 1 _ rfl KX ?_)
  intro w2 hc hz hb
  have S0 : SB w2 (.slice (some ⟨W.heap.size, 0, none⟩) 1 1) [120] := SB.of_ba' ((ba_vals KX).same hc hz) rfl (Nat.le_refl _)
  replace b0 := hb _ _ (Nat.le_refl _) b0
  simp only [AP]
  clear hc hz hb KX
  refine wpSeq_wp rfl ?_
  unfold Oper.wp execOp
  go_simp
  refine (MC.out _ _ w2 S0).mono ?_
  rintro _ w3 ⟨v1, rfl, O1, b1⟩
  replace O1 := O1.mono b0.size
  replace b0 := b0.trans (b1.mono b0.size)
  clear MC S0 b1
  go_simp
  refine wpSeq_yield (S := fun _ => True) (yieldsIf_move rfl _ rfl (.tuple #[v1, .int .i64 0]) rfl) trivial ?_
  simp only [AP]
  refine wpSeq_yield (S := fun _ => True) (v := v1) (Or.inl ⟨by rfl, fun w' hw' => by go_simp⟩) trivial ?_
  simp only [AP]
  refine wpSeq_yield (S := fun _ => True) (v := .int .i64 0) (Or.inl ⟨by rfl, fun w' hw' => by go_simp⟩) trivial ?_
  simp only [AP]
  refine wpSeq_yield (S := fun _ => True) (yieldsIf_assign rfl _ rfl (v1) rfl) trivial ?_
  simp only [AP]
  refine wpSeq_yield (S := fun _ => True) (yieldsIf_assign rfl _ rfl (.int .i64 0) rfl) trivial ?_
  simp only [AP]
  refine wpSeq_nil ?_
  refine (by assumption : ∀ (a : Act) (w : World), _ → _) _ _ ?_
  go_upto_region 2 with fail
  rename_i aK
  refine wp_region_seq ?_
  refine wpSeq_yield (S := fun _ => True) (yieldsIf_build rfl _ _ rfl _ (by simp only [List.map_toArray, List.map_cons, List.map_nil]; exact B1.out)) trivial ?_
  simp only [AP]
  refine wpSeq_yield (S := fun _ => True) (yieldsIf_build rfl _ _ rfl _ (by simp only [List.map_toArray, List.map_cons, List.map_nil]; exact B2.out)) trivial ?_
  simp only [AP]
  refine wpSeq_wp rfl ?_
  unfold Oper.wp execOp
  go_simp
  refine (VO.out w3 (HW.out.below b0)).mono ?_
  rintro _ w4 ⟨rfl, b1⟩
  replace O1 := O1.below b1
  replace b0 := b0.trans (b1.mono b0.size)
  have olt := fun j (h : v1.ownBlock = some j) => (O1.lt j h).2
  clear VO b1
  go_simp
  refine wpSeq_yield (S := fun _ => True) (yieldsIf_move rfl _ rfl (.tuple #[.agg CV, .int .i64 0]) rfl) trivial ?_
  simp only [AP]
  refine wpSeq_yield (S := fun _ => True) (v := .agg CV) (Or.inl ⟨by rfl, fun w' hw' => by go_simp⟩) trivial ?_
  simp only [AP]
  refine wpSeq_yield (S := fun _ => True) (v := .int .i64 0) (Or.inl ⟨by rfl, fun w' hw' => by go_simp⟩) trivial ?_
  simp only [AP]
  refine wpSeq_wp rfl ?_
  unfold Oper.wp execOp
  go_simp
  generalize hW : World.alloc w4 _ = w5
  obtain ⟨Z3, hZ3, K3, b3⟩ : ∃ Z3 : Array Value, Z3.size = 97 ∧ Blk w5 w4.heap.size 37 Z3 ∧ Below w4.heap.size w4 w5 := by
    rw [← hW]
    exact ⟨_, rfl, Blk.new _ _ _, (Below.refl _ _).alloc (Nat.le_refl _) _⟩
  clear hW
  replace O1 := O1.below b3
  have g3 : W.heap.size ≤ w4.heap.size := b0.size
  replace b0 := b0.trans (b3.mono b0.size)
  obtain ⟨g, hg⟩ : ∃ g, w4.heap.size = g := ⟨_, rfl⟩
  have OG := Lib.hid (show ∀ j, v1.ownBlock = some j → j ≠ g from fun j h => by have := olt j h; omega)
  rw [hg] at K3 g3 ⊢
  clear hg b3 olt
  refine wpSeq_store_row rfl 37 _ _ rfl g CV rfl rfl _ _ K3 CZ (by rw [cz]; exact hZ3) C1.out ?_
  simp only [Act.put]
  refine wpSeq_yield (S := fun _ => True) (yieldsIf_assign rfl _ rfl (.int .i64 0) rfl) trivial ?_
  simp only [AP]
  refine wpSeq_nil ?_
  refine (by assumption : ∀ (a : Act) (w : World), _ → _) _ _ ?_
  replace K3 := K3.row CV
  replace O1 : OwL W.heap.size (w5.setRow g CV) v1 mL := O1.of_block fun j hj => setRow_other w5 g j CV (OG.out j hj)
  replace b0 := below_setRow b0 g3 CV
  generalize World.setRow w5 g _ = w6 at *
  have S1 := O1.sb
  have bd := below_drew (Below.refl w6.heap.size w6)
  replace S1 := S1.below bd
  replace K3 := K3.below' bd
  replace b0 := b0.trans (bd.mono b0.size)
  clear bd O1 OG
  go_upto_region 3 with fail
  rename_i aK
  refine wp_region_S (S := fun w' => SB w' v1 mL ∧ Blk w' g 37 CV) (by kernel_rfl) ?_
  generalize w6.drew = w7 at *
  have hS := And.intro S1 K3
  refine wpAnyS_takeL 0 (v := .int .i64 0) rfl (by kernel_rfl) (by kernel_rfl) (by kernel_rfl) (fun _ _ _ H => H) (yieldsIf_move rfl _ rfl (.int .i64 0) rfl) hS ?_
  simp only [AP]
  refine wpAnyS_takeL 1 (v := .bool true) rfl (by kernel_rfl) (by kernel_rfl) (by kernel_rfl) (fun _ _ _ H => H) (Or.inl ⟨by rfl, fun w' hw' => by go_simp⟩) hS ?_
  simp only [AP]
  refine wpAnyS_takeL 2 (v := .bool true) rfl (by kernel_rfl) (by kernel_rfl) (by kernel_rfl) (fun _ _ _ H => H) (yieldsIf_move rfl _ rfl (.bool true) rfl) hS ?_
  simp only [AP]
  refine wpAnyS_takeL 3 (v := v1) rfl (by kernel_rfl) (by kernel_rfl) (by kernel_rfl) (fun _ _ _ H => H) (yieldsIf_move rfl _ rfl (v1) rfl) hS ?_
  simp only [AP]
  refine wpAnyS_takeL 4 (v := .string (strB mL)) rfl (by kernel_rfl) (by kernel_rfl) (by kernel_rfl) (fun _ _ _ H => H) (yieldsIf_conv (S := fun w' => SB w' v1 mL ∧ Blk w' g 37 CV) rfl _ rfl v1 rfl mL (fun _ h => h.1)) hS ?_
  simp only [AP]
  refine wpAnyS_takeL 5 (v := .bool true) rfl (by kernel_rfl) (by kernel_rfl) (by kernel_rfl) (fun _ _ _ H => H) (yieldsIf_strB rfl _ _ rfl mL mL rfl str_mL rfl) hS ?_
  simp only [AP]
  refine wpAnyS_takeL 6 (v := .bool true) rfl (by kernel_rfl) (by kernel_rfl) (by kernel_rfl) (fun _ _ _ H => H) (yieldsIf_pick rfl _ _ _ rfl true rfl (.bool true) rfl) hS ?_
  simp only [AP]
  refine wpAnyS_takeL 7 (v := .bool true) rfl (by kernel_rfl) (by kernel_rfl) (by kernel_rfl) (fun _ _ _ H => H) (yieldsIf_move rfl _ rfl (.bool true) rfl) hS ?_
  simp only [AP]
  refine wpAnyS_takeL 8 (v := .int .i64 0) rfl (by kernel_rfl) (by kernel_rfl) (by kernel_rfl) (fun _ _ _ H => H) (yieldsIf_move rfl _ rfl (.int .i64 0) rfl) hS ?_
  simp only [AP]
  refine wpAnyS_takeL 9 (v := .bool true) rfl (by kernel_rfl) (by kernel_rfl) (by kernel_rfl) (fun _ _ _ H => H) (Or.inl ⟨by rfl, fun w' hw' => by go_simp⟩) hS ?_
  simp only [AP]
  refine wpAnyS_takeL 10 (v := .bool true) rfl (by kernel_rfl) (by kernel_rfl) (by kernel_rfl) (fun _ _ _ H => H) (yieldsIf_pick rfl _ _ _ rfl true rfl (.bool true) rfl) hS ?_
  simp only [AP]
  refine wpAnyS_takeL 11 (v := .bool true) rfl (by kernel_rfl) (by kernel_rfl) (by kernel_rfl) (fun _ _ _ H => H) (yieldsIf_move rfl _ rfl (.bool true) rfl) hS ?_
  simp only [AP]
  refine wpAnyS_takeL 12 (v := .agg (Iv .u8 K1)) rfl (by kernel_rfl) (by kernel_rfl) (by kernel_rfl) (fun _ _ _ H => H) (yieldsIf_build rfl _ _ rfl _ (by simp only [List.map_toArray, List.map_cons, List.map_nil]; exact B1.out)) hS ?_
  simp only [AP]
  refine wpAnyS_takeL 14 (v := .agg CV) rfl (by kernel_rfl) (by kernel_rfl) (by kernel_rfl) (fun _ _ _ H => H) (show YieldsIf _ _ _ _ (.agg CV) _ from yieldsIf_row_wanted (S := fun w' => SB w' v1 mL ∧ Blk w' g 37 CV) rfl 37 _ rfl g rfl 37 _ _ (fun _ h => h.2) Tryd.underlying37 rfl CZ) hS ?_
  simp only [AP]
  clear hS B1 B2
  refine gstep 13 rfl rfl (by kernel_rfl) ?_
  unfold Oper.wp execOp
  go_simp
  refine (PC.out w7 (HW.out.below b0)).mono ?_
  rintro _ w8 ⟨rfl, b1⟩
  replace S1 := S1.below b1
  replace K3 := K3.below' b1
  replace b0 := b0.trans (b1.mono b0.size)
  refine ⟨⟨S1, K3⟩, ?_⟩
  clear PC b1
  refine gstep 15 rfl rfl (by kernel_rfl) ?_
  unfold Oper.wp execOp
  go_simp
  refine (VD.out w8 (HW.out.below b0)).mono ?_
  rintro _ w9 ⟨rfl, b1⟩
  replace S1 := S1.below b1
  replace K3 := K3.below' b1
  replace b0 := b0.trans (b1.mono b0.size)
  have hS := And.intro S1 K3
  refine ⟨hS, ?_⟩
  clear VD b1 S1 K3
  refine wpAnyS_takeL 16 (v := .bool true) rfl (by kernel_rfl) (by kernel_rfl) (by kernel_rfl) (fun _ _ _ H => H) (yieldsIf_pick rfl _ _ _ rfl true rfl (.bool true) rfl) hS ?_
  simp only [AP]
  refine wpAnyS_takeL 17 (v := .bool true) rfl (by kernel_rfl) (by kernel_rfl) (by kernel_rfl) (fun _ _ _ H => H) (yieldsIf_assign rfl _ rfl (.bool true) rfl) hS ?_
  simp only [AP]
  refine wpAnyS_done (by kernel_rfl) ?_ _
  refine aK _ _ ?_
  clear aK
  go_wp2
  go_ret
  exact ⟨rfl, b0⟩
end Go.Proofs.YtegbnadnodlalaaDoor
namespace Go.Proofs.YtegbnadnodlalaaDoor
open Go.RowKit
def AwakeC (W : World) : Prop := ∀ w, Below W.heap.size W w → Calls Tryd.prog 6 #[] w fun e w' => e = .returned (.bool true) ∧ Below w.heap.size w w'
theorem msgB_small (k : Nat) (b : List Nat) (h : b.length ≤ 5000) : msgB k b = [k, 0, b.length / 256, b.length % 256] ++ b := by
  unfold msgB
  rw [show b.length / 65536 = 0 by omega, show b.length / 256 % 256 = b.length / 256 by omega]
  rfl
theorem msgB_bytes {k : Nat} {b : List Nat} (hk : k < 256) (hb : Bytes b) (h : b.length ≤ 5000) : Bytes (msgB k b) := by
  rw [msgB_small k b h]
  refine Bytes.append (fun x hx => ?_) hb
  simp only [List.mem_cons, List.not_mem_nil, or_false] at hx
  omega
end Go.Proofs.YtegbnadnodlalaaDoor
