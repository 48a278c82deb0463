/- The program's lay, Of, First: their contracts (printed by gen13/qg.py). Slices of bytes opened and shut; a row's last step (printed by genyd.py). Arguments that are only read: read again behind the call, unopened. Heads and eight bytes, handed in, opened. -/
import Derived.Test.YtpihgljdbpnehaaDoorQf
import Derived.Lib.SlBytesConst
import Derived.Test.YtpihgljdbpnehaaDoorBg0HSa
import Derived.ProofKit
import Derived.OpenShut
import Derived.DataShut
import Derived.ChangeSame
import Derived.JoinedOf
import Derived.JoinedAt
import Derived.RowKit3
import Derived.Carry
import Derived.ChangeSlices
import Derived.Test.YtpihgljdbpnehaaDoorLq0Nb
import Derived.Deep.Slices
namespace Go.Proofs.YtpihgljdbpnehaaDoor
open Go.RowKit
theorem wp_conv_const {o : Oper} {a : Act} {w : World} {K : Act → World → Prop} {Q : Exit → Act → World → Prop} (x : Operand) (d : Tmp) (ho : o.op = .convert 24 24 x) (hd : o.dst = some d) (C : Array Value) (n c : Nat) (hx : a.eval x = .slice (some ⟨w.heap.size, 0, none⟩) n c)
  (hK : K (a.put (some d) (.slice (some ⟨w.heap.size, 0, none⟩) n c)) (w.alloc (.cells C 5 (C.size, C.size + 1)))) : o.wp Tryd.prog a (w.alloc (.cells C 5)) K Q := by
 unfold Oper.wp execOp
 simp only [ho, hx, Sem.run_bind, Lib.run_convert_bytes_const w 24 5 C n c Tryd.underlying24 Tryd.underlying5, Result.andThen_ok, Sem.run_pure]
 show K (a.put o.dst _) _
 rw [hd]
 exact hK
theorem ba_mark (W : World) (l : List Nat) (z : Nat × Nat) : BA (W.alloc (.cells (Iv .u8 (NI l)) 5 z)) W.heap.size 0 l := by
 have h := heap_alloc_new W (.cells (Iv .u8 (NI l)) 5 z)
 refine ⟨fun i hi => ?_, by rw [size_alloc1]; omega⟩
 rw [Nat.zero_add, cell_of_row _ _ _ _ _ _ h]
 exact NI_get l i hi
theorem results_cells {P : Program} {fn : Func} {p q : Tmp} {ty : TypeId} (h : fn.results = #[.cell p ty, .cell q ty]) (tmps : Array Value) (w : World) (g g2 : Nat) (t : TypeId) (cs ds : Array Value) (d : TypeDesc)
  (hp : tmps.getD p undef = .pointer (some ⟨g, 0, none⟩)) (hq : tmps.getD q undef = .pointer (some ⟨g2, 0, none⟩)) (hg : Blk w g t cs) (hg2 : Blk w g2 t ds) (hu : P.underlying ty = some d) (hd : (match d with | .struct _ | .array _ _ => true | _ => false) = true) (hi : (P.info? ty).map (·.size) = some cs.size) (hi2 : (P.info? ty).map (·.size) = some ds.size) :
  (results fn tmps).run P w = .ok (.tuple #[.agg cs, .agg ds]) w := by
 have hp' : tmps[p]?.getD undef = .pointer (some ⟨g, 0, none⟩) := by simpa using hp
 have hq' : tmps[q]?.getD undef = .pointer (some ⟨g2, 0, none⟩) := by simpa using hq
 simp [results, h, hp', hq', asAddr, run_loadVar_row w g t ty cs (0, 0) d hg hu hd hi, run_loadVar_row w g2 t ty ds (0, 0) d hg2 hu hd hi2]
theorem info_k32 (l : List Nat) (h : l.length = 32) : (Tryd.prog.info? 23).map (·.size) = some (Iv .u8 (NI l)).size := by rw [Iv_size, NI_length, h]; exact info_key32
theorem splice_keys (A B C Z : List Nat) (lA : A.length = 16) (lB : B.length = 12) (lC : C.length = 16) (lZ : Z.length = 44) : splice (splice (splice Z 0 A) 16 B) 28 C = A ++ (B ++ C) := by
 have h := splice3 Z A B C (by rw [lA, lB, lC, lZ])
 rw [lA, lB, lC] at h
 unfold splice
 rw [lA, lB, lC]
 exact h
set_option maxHeartbeats 8000000 in
set_option maxRecDepth 100000 in
theorem lay_c2 (s : List Nat) (ls : s.length = 32) (bs : Bytes s) (t : ByteArray) (ht : t.size ≤ 249) (n : Nat) (hn : n < 256) (g off c : Nat) (ty : TypeId) (l : List Nat) (hl : off + n ≤ l.length) (W : World) (T : Tab W cuT) (Q : Sq W sqT) (KL : Blk W g ty (Iv .u8 (NI l))) :
  Calls Tryd.prog 21 #[.slice (some ⟨g, off, none⟩) n c, .agg (Iv .u8 (NI s)), .string t] W fun e w' => (∃ v, e = .returned v) ∧ Blk w' g ty (Iv .u8 (NI (splice l off (labL s t [] n)))) ∧ W.grownBy w' (some g) := by
 have LO := Lib.hid (fun (w : World) (h : Below W.heap.size W w) => label_ok w s t [] (.slice none 0 0) n (T.below h) (Q.below h) (SB.nil w none 0) ls bs Bytes.nil ht (Nat.zero_le _) hn)
 have hr := Lib.hid (labL_length s t [] n)
 generalize labL s t [] n = R at *
 obtain ⟨SC, hSC⟩ : ∃ SC, Iv .u8 (NI s) = SC := ⟨_, rfl⟩
 rw [hSC] at LO ⊢
 have kz : (Tryd.prog.info? 23).map (·.size) = some SC.size := by rw [← hSC]; exact info_k32 s ls
 clear hSC ls bs T Q
 go_enter Tryd.func21, Tryd.ntmps21
 go_upto_region 0 with fail
 rename_i aK
 refine wp_region_seq ?_
 refine wpSeq_wp rfl ?_
 unfold Oper.wp execOp
 go_simp
 refine wpSeq_nil ?_
 refine aK _ _ ?_
 clear aK
 have K0 := Blk.new W 23 SC
 have b0 := (Below.refl W.heap.size W).alloc (Nat.le_refl _) (.cells SC 23)
 generalize World.alloc W _ = w1 at *
 go_upto_region 1 with fail
 rename_i aK
 refine wp_region_seq ?_
 refine wpSeq_yield (S := fun w' => w' = w1) (show YieldsIf _ _ _ _ (.agg SC) _ from yieldsIf_row_wanted (S := fun w' => w' = w1) rfl 23 _ rfl W.heap.size rfl 23 _ _ (fun _ h => h ▸ K0) Tryd.underlying23 rfl kz) rfl ?_
 simp only [AP]
 refine smv (.string t) rfl rfl rfl ?_
 simp only [AP]
 refine smv (.slice (some ⟨g, off, none⟩) n c) rfl rfl rfl ?_
 simp only [AP]
 refine svl (.int .i64 (n : Int)) (.inl ⟨by rfl, fun w' _ => by go_simp⟩) ?_
 simp only [AP]
 refine wpSeq_wp rfl ?_
 unfold Oper.wp execOp
 go_simp
 refine (LO.out w1 b0).mono ?_
 rintro _ w2 ⟨p, rfl, S2, _, b2⟩
 replace b0 := b0.trans (b2.mono b0.size)
 clear LO b2 K0
 go_simp
 refine smv (.tuple #[.slice p n n, .int .i64 0]) rfl rfl rfl ?_
 simp only [AP]
 refine svl (.slice p n n) (.inl ⟨by rfl, fun w' _ => by go_simp⟩) ?_
 simp only [AP]
 refine svl (.int .i64 0) (.inl ⟨by rfl, fun w' _ => by go_simp⟩) ?_
 simp only [AP]
 refine sas (.slice p n n) rfl rfl rfl ?_
 simp only [AP]
 refine sas (.int .i64 0) rfl rfl rfl ?_
 simp only [AP]
 refine wpSeq_nil ?_
 refine (by assumption : ∀ (a : Act) (w : World), _ → _) _ _ ?_
 have KL2 := KL.below' b0
 have hn2 : R.length ≤ n := by rw [hr.out]; exact Nat.le_refl _
 go_upto_region 2 with fail
 rename_i aK
 refine wp_region_seq ?_
 refine smv (.slice (some ⟨g, off, none⟩) n c) rfl rfl rfl ?_
 simp only [AP]
 refine smv (.slice p n n) rfl rfl rfl ?_
 simp only [AP]
 refine wpSeq_wp rfl (wp_copy_in _ _ rfl g off n c rfl (.slice p n n) R l ty rfl S2 KL2 hn2 hl ?_)
 intro w3 K3 G3
 clear KL2 S2
 go_simp
 refine wpSeq_nil ?_
 refine bodyPost_end (results_none rfl _ _ _) rfl ?_
 exact ⟨⟨_, rfl⟩, K3, gb_trans (show W.grownBy w2 (some g) from ⟨b0.os, b0.tape, b0.output, b0.size, fun k hk _ => b0.block k hk⟩) G3⟩
set_option maxHeartbeats 8000000 in
set_option maxRecDepth 100000 in
theorem of_c : OfC := fun s ls bs W T Q => by
 have ST := Lib.hid (And.intro ls bs)
 have TQ := Lib.hid (fun (w : World) (h : Below W.heap.size W w) => And.intro (T.below h) (Q.below h))
 have LK := keyG_length s
 have LN := nonG_length s
 have LM := masG_length s
 have SK := Lib.hid (show splice (splice (splice (List.replicate 44 0) 0 (labL s sKey [] 16)) 16 (labL s sIv [] 12)) 28 (labL s sHp [] 16) = keysG s from splice_keys (keyG s) (nonG s) (masG s) _ LK LN LM (by simp))
 have L1 := Lib.hid (labL_length s sKey [] 16)
 have L2 := Lib.hid (labL_length s sIv [] 12)
 clear T Q LK LN LM
 have LC := Lib.hid (fun (t : ByteArray) (ht : t.size ≤ 249) (n : Nat) (hn : n < 256) (g off c : Nat) (l : List Nat) (hl : off + n ≤ l.length) (w : World) (h : Below W.heap.size W w) (KL : Blk w g 30 (Iv .u8 (NI l))) => lay_c2 s ST.out.1 ST.out.2 t ht n hn g off c 30 l hl w (TQ.out w h).1 (TQ.out w h).2 KL)
 obtain ⟨A1, hA1⟩ : ∃ A, labL s sKey [] 16 = A := ⟨_, rfl⟩
 obtain ⟨A2, hA2⟩ : ∃ A, labL s sIv [] 12 = A := ⟨_, rfl⟩
 obtain ⟨A3, hA3⟩ : ∃ A, labL s sHp [] 16 = A := ⟨_, rfl⟩
 have kE := keysG_length s
 obtain ⟨E, hE⟩ : ∃ E, keysG s = E := ⟨_, rfl⟩
 rw [hA1, hA2, hA3, hE] at SK
 rw [hA1] at L1
 rw [hA2] at L2
 rw [hE] at kE ⊢
 have C1 := Lib.hid (fun (g c : Nat) (l : List Nat) (hl : 0 + 16 ≤ l.length) (w : World) (h : Below W.heap.size W w) (KL : Blk w g 30 (Iv .u8 (NI l))) => LC.out sKey (by decide) 16 (by decide) g 0 c l hl w h KL)
 have C2 := Lib.hid (fun (g c : Nat) (l : List Nat) (hl : 16 + 12 ≤ l.length) (w : World) (h : Below W.heap.size W w) (KL : Blk w g 30 (Iv .u8 (NI l))) => LC.out sIv (by decide) 12 (by decide) g 16 c l hl w h KL)
 have C3 := Lib.hid (fun (g c : Nat) (l : List Nat) (hl : 28 + 16 ≤ l.length) (w : World) (h : Below W.heap.size W w) (KL : Blk w g 30 (Iv .u8 (NI l))) => LC.out sHp (by decide) 16 (by decide) g 28 c l hl w h KL)
 rw [hA1] at C1
 rw [hA2] at C2
 rw [hA3] at C3
 clear LC hA1 hA2 hA3 hE
 obtain ⟨SC, hSC⟩ : ∃ SC, Iv .u8 (NI s) = SC := ⟨_, rfl⟩
 rw [hSC] at C1 C2 C3 ⊢
 have kz : (Tryd.prog.info? 23).map (·.size) = some SC.size := by rw [← hSC]; exact info_k32 s ST.out.1
 clear hSC ls bs
 have lz : ∀ (l m : List Nat) (o : Nat), o + m.length ≤ l.length → (splice l o m).length = l.length := fun l m o h => length_splice l o m h
 go_enter Tryd.func9, Tryd.ntmps9
 go_upto_region 0 with fail
 rename_i aK
 refine wp_region_seq ?_
 refine wpSeq_wp rfl ?_
 unfold Oper.wp execOp
 go_simp
 refine wpSeq_wp rfl ?_
 unfold Oper.wp execOp
 go_simp
 refine wpSeq_nil ?_
 refine aK _ _ ?_
 clear aK
 generalize hW : World.alloc (World.alloc W _) _ = w1
 obtain ⟨Z, hZ, K0, KH, b0⟩ : ∃ Z : Array Value, Z.size = 44 ∧ Blk w1 W.heap.size 23 SC ∧ Blk w1 (W.heap.size + 1) 30 Z ∧ Below W.heap.size W w1 := by
  rw [← hW]
  exact ⟨_, rfl, two_alloc W _ _ _ _⟩
 clear hW
 go_upto_region 1 with fail
 rename_i aK
 refine wp_region_seq ?_
 refine wpSeq_wp rfl ?_
 unfold Oper.wp execOp
 go_simp
 refine wpSeq_nil ?_
 refine aK _ _ ?_
 clear aK
 generalize hW : World.alloc w1 _ = w2
 obtain ⟨KR, b2⟩ : Blk w2 w1.heap.size 30 (Iv .u8 (NI (List.replicate 44 0))) ∧ Below w1.heap.size w1 w2 := by
  rw [← hW]
  exact ⟨Blk.new _ _ _, (Below.refl w1.heap.size w1).alloc (Nat.le_refl _) _⟩
 clear hW
 have NG := Lib.hid (And.intro K0.lt KH.lt)
 replace K0 := K0.below' b2
 replace KH := KH.below' b2
 replace b0 := b0.trans (b2.mono b0.size)
 clear b2
 obtain ⟨g3, hg3⟩ : ∃ g, w1.heap.size = g := ⟨_, rfl⟩
 rw [hg3] at KR NG ⊢
 clear hg3
 obtain ⟨l0, hl0⟩ : ∃ l, List.replicate 44 0 = l := ⟨_, rfl⟩
 have z0 : l0.length = 44 := by rw [← hl0]; simp
 rw [hl0] at KR SK
 clear hl0
 have bd := below_drew (Below.refl w2.heap.size w2)
 replace K0 := K0.below' bd
 replace KH := KH.below' bd
 replace KR := KR.below' bd
 replace b0 := b0.trans (bd.mono b0.size)
 clear bd
 go_upto_region 2 with fail
 rename_i aK
 refine wp_region_S (S := fun w' => Blk w' W.heap.size 23 SC) (by kernel_rfl) ?_
 generalize w2.drew = w3 at *
 have hS := K0
 refine wpAnyS_takeL 0 (v := .pointer (some ⟨g3, 0, none⟩)) rfl (by kernel_rfl) (by kernel_rfl) (by kernel_rfl) (fun _ _ _ H => H) (Or.inl ⟨by rfl, fun w' hw' => by (go_simp)⟩) hS ?_
 simp only [AP]
 refine wpAnyS_takeL 1 (v := .slice (some ⟨g3, 0, none⟩) 16 16) rfl (by kernel_rfl) (by kernel_rfl) (by kernel_rfl) (fun _ _ _ H => H) (Or.inl ⟨by rfl, fun w' hw' => by (go_simp)⟩) hS ?_
 simp only [AP]
 refine wpAnyS_takeL 2 (v := .agg SC) rfl (by kernel_rfl) (by kernel_rfl) (by kernel_rfl) (fun _ _ _ H => H) (show YieldsIf _ _ _ _ (.agg SC) _ from yieldsIf_row_wanted (S := fun w' => Blk w' W.heap.size 23 SC) rfl 23 _ rfl W.heap.size rfl 23 _ _ (fun _ h => h) Tryd.underlying23 rfl kz) hS ?_
 simp only [AP]
 refine gstep 3 rfl rfl (by kernel_rfl) ?_
 unfold Oper.wp execOp
 go_simp
 refine (C1.out g3 16 l0 (by rw [z0]; decide) w3 b0 KR).mono ?_
 rintro _ w4 ⟨⟨vr, rfl⟩, KR2, G⟩
 have k0 : Blk w4 W.heap.size 23 SC := (G.block _ K0.lt (fun e => by have := Option.some.inj e; have := NG.out; omega)).trans K0
 refine ⟨k0, ?_⟩
 replace KH : Blk w4 (W.heap.size + 1) 30 Z := (G.block _ KH.lt (fun e => by have := Option.some.inj e; have := NG.out; omega)).trans KH
 replace K0 := k0
 replace b0 := below_grown' b0 G (fun j e => by have := Option.some.inj e; have := NG.out; omega) b0.size
 obtain ⟨l1, hl1⟩ : ∃ l, splice l0 0 A1 = l := ⟨_, rfl⟩
 have z1 : l1.length = 44 := by rw [← hl1, lz _ _ _ (by rw [z0, L1.out]; decide), z0]
 rw [hl1] at KR2 SK
 clear KR G k0 hS hl1 C1
 have KR := KR2
 clear KR2
 refine wpAnyS_done (by kernel_rfl) ?_ _
 refine (by assumption : ∀ (a : Act) (w : World), _ → _) _ _ ?_
 clear aK
 have bd := below_drew (Below.refl w4.heap.size w4)
 replace K0 := K0.below' bd
 replace KH := KH.below' bd
 replace KR := KR.below' bd
 replace b0 := b0.trans (bd.mono b0.size)
 clear bd
 go_upto_region 3 with fail
 rename_i aK
 refine wp_region_S (S := fun w' => Blk w' W.heap.size 23 SC) (by kernel_rfl) ?_
 generalize w4.drew = w5 at *
 have hS := K0
 refine wpAnyS_takeL 0 (v := .pointer (some ⟨g3, 16, none⟩)) rfl (by kernel_rfl) (by kernel_rfl) (by kernel_rfl) (fun _ _ _ H => H) (Or.inl ⟨by rfl, fun w' hw' => by (go_simp)⟩) hS ?_
 simp only [AP]
 refine wpAnyS_takeL 1 (v := .slice (some ⟨g3, 16, none⟩) 12 12) rfl (by kernel_rfl) (by kernel_rfl) (by kernel_rfl) (fun _ _ _ H => H) (Or.inl ⟨by rfl, fun w' hw' => by (go_simp)⟩) hS ?_
 simp only [AP]
 refine wpAnyS_takeL 2 (v := .agg SC) rfl (by kernel_rfl) (by kernel_rfl) (by kernel_rfl) (fun _ _ _ H => H) (show YieldsIf _ _ _ _ (.agg SC) _ from yieldsIf_row_wanted (S := fun w' => Blk w' W.heap.size 23 SC) rfl 23 _ rfl W.heap.size rfl 23 _ _ (fun _ h => h) Tryd.underlying23 rfl kz) hS ?_
 simp only [AP]
 refine gstep 3 rfl rfl (by kernel_rfl) ?_
 unfold Oper.wp execOp
 go_simp
 refine (C2.out g3 12 l1 (by rw [z1]; decide) w5 b0 KR).mono ?_
 rintro _ w6 ⟨⟨vr, rfl⟩, KR2, G⟩
 have k0 : Blk w6 W.heap.size 23 SC := (G.block _ K0.lt (fun e => by have := Option.some.inj e; have := NG.out; omega)).trans K0
 refine ⟨k0, ?_⟩
 replace KH : Blk w6 (W.heap.size + 1) 30 Z := (G.block _ KH.lt (fun e => by have := Option.some.inj e; have := NG.out; omega)).trans KH
 replace K0 := k0
 replace b0 := below_grown' b0 G (fun j e => by have := Option.some.inj e; have := NG.out; omega) b0.size
 obtain ⟨l2, hl2⟩ : ∃ l, splice l1 16 A2 = l := ⟨_, rfl⟩
 have z2 : l2.length = 44 := by rw [← hl2, lz _ _ _ (by rw [z1, L2.out]; decide), z1]
 rw [hl2] at KR2 SK
 clear KR G k0 hS hl2 C2
 have KR := KR2
 clear KR2
 refine wpAnyS_done (by kernel_rfl) ?_ _
 refine (by assumption : ∀ (a : Act) (w : World), _ → _) _ _ ?_
 clear aK
 have bd := below_drew (Below.refl w6.heap.size w6)
 replace K0 := K0.below' bd
 replace KH := KH.below' bd
 replace KR := KR.below' bd
 replace b0 := b0.trans (bd.mono b0.size)
 clear bd
 go_upto_region 4 with fail
 rename_i aK
 refine wp_region_S (S := fun w' => Blk w' W.heap.size 23 SC) (by kernel_rfl) ?_
 generalize w6.drew = w7 at *
 have hS := K0
 refine wpAnyS_takeL 0 (v := .pointer (some ⟨g3, 28, none⟩)) rfl (by kernel_rfl) (by kernel_rfl) (by kernel_rfl) (fun _ _ _ H => H) (Or.inl ⟨by rfl, fun w' hw' => by (go_simp)⟩) hS ?_
 simp only [AP]
 refine wpAnyS_takeL 1 (v := .slice (some ⟨g3, 28, none⟩) 16 16) rfl (by kernel_rfl) (by kernel_rfl) (by kernel_rfl) (fun _ _ _ H => H) (Or.inl ⟨by rfl, fun w' hw' => by (go_simp)⟩) hS ?_
 simp only [AP]
 refine wpAnyS_takeL 2 (v := .agg SC) rfl (by kernel_rfl) (by kernel_rfl) (by kernel_rfl) (fun _ _ _ H => H) (show YieldsIf _ _ _ _ (.agg SC) _ from yieldsIf_row_wanted (S := fun w' => Blk w' W.heap.size 23 SC) rfl 23 _ rfl W.heap.size rfl 23 _ _ (fun _ h => h) Tryd.underlying23 rfl kz) hS ?_
 simp only [AP]
 refine gstep 3 rfl rfl (by kernel_rfl) ?_
 unfold Oper.wp execOp
 go_simp
 refine (C3.out g3 16 l2 (by rw [z2]; decide) w7 b0 KR).mono ?_
 rintro _ w8 ⟨⟨vr, rfl⟩, KR2, G⟩
 have k0 : Blk w8 W.heap.size 23 SC := (G.block _ K0.lt (fun e => by have := Option.some.inj e; have := NG.out; omega)).trans K0
 refine ⟨k0, ?_⟩
 replace KH : Blk w8 (W.heap.size + 1) 30 Z := (G.block _ KH.lt (fun e => by have := Option.some.inj e; have := NG.out; omega)).trans KH
 replace K0 := k0
 replace b0 := below_grown' b0 G (fun j e => by have := Option.some.inj e; have := NG.out; omega) b0.size
 obtain ⟨l3, hl3⟩ : ∃ l, splice l2 28 A3 = l := ⟨_, rfl⟩
 have z3 := kE
 rw [hl3] at KR2 SK
 clear KR G k0 hS hl3 C3
 have KR := KR2
 clear KR2
 refine wpAnyS_done (by kernel_rfl) ?_ _
 refine (by assumption : ∀ (a : Act) (w : World), _ → _) _ _ ?_
 clear aK
 replace KR : Blk w8 g3 30 (Iv .u8 (NI E)) := by
  have e := SK.out
  rw [← e]
  exact KR
 clear SK
 go_upto_region 5 with fail
 rename_i aK
 refine wp_region_seq ?_
 refine wpSeq_yield (S := fun w' => w' = w8) (show YieldsIf _ _ _ _ (.agg (Iv .u8 (NI E))) _ from yieldsIf_row_wanted (S := fun w' => w' = w8) rfl 30 _ rfl g3 rfl 30 _ _ (fun _ h => h ▸ KR) Tryd.underlying30 rfl (info_keys _ (by rw [Iv_size, NI_length, kE]))) rfl ?_
 simp only [AP]
 refine wpSeq_store_row rfl 30 _ _ rfl (W.heap.size + 1) (Iv .u8 (NI E)) rfl rfl _ _ KH (info_keys _ (by rw [Iv_size, NI_length, kE])) (by rw [Iv_size, NI_length, kE]; exact hZ) (u8s_one _) ?_
 simp only [Act.put]
 refine wpSeq_nil ?_
 refine (by assumption : ∀ (a : Act) (w : World), _ → _) _ _ ?_
 go_wp2
 exact bodyPost_ret (results_cell_row rfl _ _ _ 30 _ (0, 0) _ rfl (Blk.row KH _) Tryd.underlying30 rfl (info_keys _ (by rw [Iv_size, NI_length, kE]))) rfl ⟨rfl, below_setRow b0 (by omega) _⟩
set_option maxHeartbeats 8000000 in
set_option maxRecDepth 100000 in
theorem first_c : FirstC := fun id vb bi li W T Q hid => by
 obtain ⟨p, c, rfl⟩ := hid.shape
 obtain ⟨n, hn⟩ : ∃ n, id.length = n := ⟨_, rfl⟩
 rw [hn] at hid ⊢
 have bsalt : Bytes saltL := fun x hx => by
  simp only [saltL, List.mem_cons, List.not_mem_nil, or_false] at hx
  omega
 have XC := Lib.hid (fun (w : World) (h : Below W.heap.size W w) (v : Value) (hv : SB w v saltL) => extract_any cuT sqT w v (.slice p n c) saltL id (T.below h) (Q.below h) hv (hid.below h) bsalt bi (by decide) (by rw [hn]; omega))
 have lf : (firstG id).length = 32 := hmac_length cuT sqT saltL id
 have bf : Bytes (firstG id) := hmac_bytes cuT sqT saltL id
 have KC1 := Lib.hid (fun (w : World) (h : Below W.heap.size W w) => key_ok w (firstG id) sCl [] (.slice none 0 0) (T.below h) (Q.below h) (SB.nil w none 0) lf bf Bytes.nil (by decide) (Nat.zero_le _))
 have KC2 := Lib.hid (fun (w : World) (h : Below W.heap.size W w) => key_ok w (firstG id) sSv [] (.slice none 0 0) (T.below h) (Q.below h) (SB.nil w none 0) lf bf Bytes.nil (by decide) (Nat.zero_le _))
 have l1 := cliG_length id
 have l2 := srvG_length id
 have e1 : labL (firstG id) sCl [] 32 = cliG id := rfl
 have e2 : labL (firstG id) sSv [] 32 = srvG id := rfl
 rw [e1] at KC1
 rw [e2] at KC2
 rw [show hmac cuT sqT saltL id = firstG id from rfl] at XC
 generalize cliG id = E1 at *
 generalize srvG id = E2 at *
 generalize firstG id = F at *
 clear T Q e1 e2 hid bf
 go_enter Tryd.func10, Tryd.ntmps10
 go_upto_region 0 with fail
 rename_i aK
 refine wp_region_seq ?_
 refine wpSeq_wp rfl ?_
 unfold Oper.wp execOp
 go_simp
 refine wpSeq_wp rfl ?_
 unfold Oper.wp execOp
 go_simp
 refine wpSeq_nil ?_
 refine aK _ _ ?_
 clear aK
 generalize hW : World.alloc (World.alloc W _) _ = w1
 obtain ⟨Z1, Z2, hZ1, hZ2, K1, K2, b0⟩ : ∃ Z1 Z2 : Array Value, Z1.size = 32 ∧ Z2.size = 32 ∧ Blk w1 W.heap.size 23 Z1 ∧ Blk w1 (W.heap.size + 1) 23 Z2 ∧ Below W.heap.size W w1 := by
  rw [← hW]
  exact ⟨_, _, rfl, rfl, two_alloc W _ _ _ _⟩
 clear hW
 go_upto_region 1 with fail
 rename_i aK
 refine wp_region_seq ?_
 refine wpSeq_wp rfl ?_
 unfold Oper.wp execOp
 go_simp
 refine wpSeq_wp rfl (wp_conv_const _ _ rfl rfl (Iv .u8 (NI saltL)) 20 20 rfl ?_)
 simp only [AP]
 have hS := ba_mark w1 saltL ((Iv .u8 (NI saltL)).size, (Iv .u8 (NI saltL)).size + 1)
 have b2 := (Below.refl w1.heap.size w1).alloc (Nat.le_refl _) (.cells (Iv .u8 (NI saltL)) 5 ((Iv .u8 (NI saltL)).size, (Iv .u8 (NI saltL)).size + 1))
 generalize World.alloc w1 _ = w2 at *
 replace K1 := K1.below' b2
 replace K2 := K2.below' b2
 replace b0 := b0.trans (b2.mono b0.size)
 clear b2
 refine smv (.slice p n c) rfl rfl rfl ?_
 simp only [AP]
 refine wpSeq_wp rfl ?_
 unfold Oper.wp execOp
 go_simp
 refine (XC.out w2 b0 _ (SB.of_ba' hS rfl (Nat.le_refl 20))).mono ?_
 rintro _ w3 ⟨rfl, b3⟩
 replace K1 := K1.below' b3
 replace K2 := K2.below' b3
 replace b0 := b0.trans (b3.mono b0.size)
 clear b3 hS XC
 go_simp
 refine wpSeq_wp rfl ?_
 unfold Oper.wp execOp
 go_simp
 refine wpSeq_store_row rfl 23 _ _ rfl (w3.heap.size) (Iv .u8 (NI F)) rfl rfl _ _ (Blk.new w3 _ _) (info_k32 F lf) (by rw [Iv_size, NI_length, lf]; rfl) (u8s_one _) ?_
 simp only [Act.put]
 refine wpSeq_nil ?_
 refine (by assumption : ∀ (a : Act) (w : World), _ → _) _ _ ?_
 generalize hw4 : World.setRow _ w3.heap.size _ = w4
 have F4 : Blk w4 w3.heap.size 23 (Iv .u8 (NI F)) ∧ Below w3.heap.size w3 w4 := by
  rw [← hw4]
  exact one_row _ _ _ _
 clear hw4
 have NG := Lib.hid (And.intro K1.lt K2.lt)
 replace K1 := K1.below' F4.2
 replace K2 := K2.below' F4.2
 replace b0 := b0.trans (F4.2.mono b0.size)
 have K4 := F4.1
 clear F4
 obtain ⟨g4, hg4⟩ : ∃ g, w3.heap.size = g := ⟨_, rfl⟩
 rw [hg4] at K4 NG ⊢
 clear hg4
 have bd := below_drew (Below.refl w4.heap.size w4)
 replace K1 := K1.below' bd
 replace K2 := K2.below' bd
 replace K4 := K4.below' bd
 replace b0 := b0.trans (bd.mono b0.size)
 clear bd
 go_upto_region 2 with fail
 rename_i aK
 refine wp_region_S (S := fun w' => Blk w' g4 23 (Iv .u8 (NI F))) (by kernel_rfl) ?_
 generalize w4.drew = w5 at *
 have hS := K4
 refine wpAnyS_takeL 0 (v := .agg (Iv .u8 (NI F))) rfl (by kernel_rfl) (by kernel_rfl) (by kernel_rfl) (fun _ _ _ H => H) (show YieldsIf _ _ _ _ (.agg (Iv .u8 (NI F))) _ from yieldsIf_row_wanted (S := fun w' => Blk w' g4 23 (Iv .u8 (NI F))) rfl 23 _ rfl g4 rfl 23 _ _ (fun _ h => h) Tryd.underlying23 rfl (info_k32 F lf)) hS ?_
 simp only [AP]
 refine wpAnyS_takeL 2 (v := .agg (Iv .u8 (NI F))) rfl (by kernel_rfl) (by kernel_rfl) (by kernel_rfl) (fun _ _ _ H => H) (show YieldsIf _ _ _ _ (.agg (Iv .u8 (NI F))) _ from yieldsIf_row_wanted (S := fun w' => Blk w' g4 23 (Iv .u8 (NI F))) rfl 23 _ rfl g4 rfl 23 _ _ (fun _ h => h) Tryd.underlying23 rfl (info_k32 F lf)) hS ?_
 simp only [AP]
 refine gstep 1 rfl rfl (by kernel_rfl) ?_
 unfold Oper.wp execOp
 go_simp
 refine (KC1.out w5 b0).mono ?_
 rintro _ w6 ⟨rfl, b6⟩
 refine ⟨K4.below' b6, ?_⟩
 replace K1 := K1.below' b6
 replace K2 := K2.below' b6
 replace K4 := K4.below' b6
 replace b0 := b0.trans (b6.mono b0.size)
 clear b6 hS KC1
 refine gstep 3 rfl rfl (by kernel_rfl) ?_
 unfold Oper.wp execOp
 go_simp
 refine (KC2.out w6 b0).mono ?_
 rintro _ w7 ⟨rfl, b7⟩
 refine ⟨K4.below' b7, ?_⟩
 replace K1 := K1.below' b7
 replace K2 := K2.below' b7
 replace K4 := K4.below' b7
 replace b0 := b0.trans (b7.mono b0.size)
 clear b7 KC2
 have k4 : Blk (w7.setRow W.heap.size (Iv .u8 (NI E1))) g4 23 (Iv .u8 (NI F)) := K4.rowFar (by have := NG.out; omega) (Iv .u8 (NI E1))
 refine gstep 4 rfl rfl (by kernel_rfl) (wp_store_row 23 _ _ rfl W.heap.size (Iv .u8 (NI E1)) rfl rfl _ _ K1 (info_k32 E1 l1) (by rw [Iv_size, NI_length, l1]; exact hZ1) (u8s_one _) ⟨k4, ?_⟩)
 simp only [Act.put]
 have q1 := K1.row (Iv .u8 (NI E1))
 have q2 : Blk (w7.setRow W.heap.size (Iv .u8 (NI E1))) (W.heap.size + 1) 23 Z2 := K2.rowFar (by omega) (Iv .u8 (NI E1))
 have c0 := below_setRow b0 (Nat.le_refl _) (Iv .u8 (NI E1))
 clear K1 K2 K4 b0
 generalize World.setRow w7 _ _ = w8 at *
 have k5 : Blk (w8.setRow (W.heap.size + 1) (Iv .u8 (NI E2))) g4 23 (Iv .u8 (NI F)) := k4.rowFar (by have := NG.out; omega) (Iv .u8 (NI E2))
 refine gstep 5 rfl rfl (by kernel_rfl) (wp_store_row 23 _ _ rfl (W.heap.size + 1) (Iv .u8 (NI E2)) rfl rfl _ _ q2 (info_k32 E2 l2) (by rw [Iv_size, NI_length, l2]; exact hZ2) (u8s_one _) ⟨k5, ?_⟩)
 simp only [Act.put]
 have r1 : Blk (w8.setRow (W.heap.size + 1) (Iv .u8 (NI E2))) W.heap.size 23 (Iv .u8 (NI E1)) := q1.rowFar (by omega) (Iv .u8 (NI E2))
 have r2 := q2.row (Iv .u8 (NI E2))
 have d0 := below_setRow c0 (Nat.le_succ _) (Iv .u8 (NI E2))
 clear q1 q2 c0 k4 k5
 generalize World.setRow w8 _ _ = w9 at *
 refine wpAnyS_done (by kernel_rfl) ?_ _
 refine (by assumption : ∀ (a : Act) (w : World), _ → _) _ _ ?_
 clear aK
 go_wp2
 exact bodyPost_ret (results_cells rfl _ _ _ _ 23 _ _ _ rfl rfl r1 r2 Tryd.underlying23 rfl (info_k32 E1 l1) (info_k32 E2 l2)) rfl ⟨rfl, d0⟩
end Go.Proofs.YtpihgljdbpnehaaDoor
namespace Go.Proofs.YtpihgljdbpnehaaDoor
open Go.ChangeShapes Go.WideShapes Go.ChangeAt Go.RowKit
theorem cells_u8 : Tryd.prog.cellsOf 5 = 1 := by kernel_rfl
theorem wf_u8 {n : Int} (h : (Lit.int .u8 n).wf = true) : 0 ≤ n ∧ n ≤ 255 := by
 simp [Lit.wf, IntKind.min, IntKind.max, IntKind.signed, IntKind.bits] at h
 omega
section
variable {H : Type} {enc : TypeId × Value → H}
set_option maxRecDepth 100000 in
theorem open_bytes {W : World} {r : Reach} {base : Nat} {v : Value} {d : DataW H} {ps : List MemPlace} (hval : Value.okWide Tryd.prog W r base 24 v) (hd : DataW.Trod enc Tryd.prog W 0 (fun _ => true) true 24 v d ps) :
  ∃ p c l, v = .slice p (List.length l) c ∧ SB W v l ∧ (∀ x ∈ l, x < 256) ∧ ∀ W' : World, Below W.heap.size W W' → ∀ sp : Nat → Bool, (∀ x ∈ ps, sp x.block = true) → DataW.Trod enc Tryd.prog W' 0 sp true 24 v d ps := by
 obtain ⟨a1, len, cap, rfl⟩ := okWide_slice Tryd.underlying24 hval
 obtain ⟨fuel, hf⟩ := hd
 rcases open_ints Tryd.underlying24 Tryd.underlying5 cells_u8 hf with ⟨hcs, hx⟩ | ⟨a, len', cap', zs, hcs, hba, hl, hm, hz, hx, hcell, hwz⟩
 ·
  simp [Value.cells] at hcs
  obtain ⟨rfl, rfl, rfl⟩ := hcs
  simp only [Prod.mk.injEq] at hx
  obtain ⟨rfl, rfl⟩ := hx
  exact ⟨none, 0, [], rfl, SB.nil _ _ _, (fun x hx => by cases hx), fun W' _ sp _ => shut_slice_nil Tryd.underlying24⟩
 ·
  simp [Value.cells] at hcs
  obtain ⟨rfl, rfl, rfl⟩ := hcs
  simp only [Prod.mk.injEq] at hx
  obtain ⟨rfl, rfl⟩ := hx
  simp only [if_true] at hz
  have hrange : ∀ i, i < zs.length → 0 ≤ zs.getD i 0 ∧ zs.getD i 0 ≤ 255 := fun i hi => by
   have : zs.getD i 0 = zs[i] := by simp [List.getD, hi]
   rw [this]
   exact wf_u8 (hwz _ (List.getElem_mem hi))
  obtain ⟨l, hL⟩ : ∃ l : List Nat, l = (List.range len).map fun i => (zs.getD i 0).toNat := ⟨_, rfl⟩
  have ll : l.length = len := by rw [hL]; simp
  have bl : ∀ x ∈ l, x < 256 := fun x hx => by
   rw [hL] at hx
   obtain ⟨i, hi, rfl⟩ := List.mem_map.1 hx
   have := hrange i (by have := List.mem_range.1 hi; omega)
   omega
  refine ⟨some a, cap, l, by rw [ll], ⟨some a, cap, by rw [ll], by rw [ll]; exact hl, ?_⟩, bl, ?_⟩
  ·
   by_cases h0 : len = 0
   · exact Or.inl (List.eq_nil_of_length_eq_zero (by omega))
   ·
    right
    obtain ⟨b, off, spot⟩ := a
    have hspot : spot = none := by simpa [Addr.add] using World.cell?_spot (hcell 0 (by omega))
    subst hspot
    have hc : ∀ i, i < zs.length → W.cell? ⟨b, off + i, none⟩ = some (.int .u8 (zs.getD i 0)) := fun i hi => by
     have := hcell i hi
     rw [Addr.add_lit] at this
     exact this
    refine ⟨b, off, rfl, fun i hi => ?_, World.block_lt_of_cell? _ _ (hc 0 (by omega))⟩
    have hr := hrange i (by omega)
    rw [hc i (by omega)]
    congr 2
    have : l[i] = (zs.getD i 0).toNat := by simp only [hL, List.getElem_map, List.getElem_range]
    omega
  ·
   intro W' hb sp hsp
   refine ⟨2, shut_ints 0 Tryd.underlying24 Tryd.underlying5 cells_u8 (Nat.zero_le _) hl hm ?_ ?_ hwz⟩
   ·
    by_cases h0 : cap = 0
    ·
     have : len = 0 := by omega
     rw [hz, h0, this]
     simp
    ·
     have : sp a.block = true := hsp (.cell a.block (a.off + 0)) (by
      simp only [MemPlace.row, List.mem_map, List.mem_range]
      exact ⟨0, by omega, rfl⟩)
     rw [this, hz]
     simp
   ·
    intro i hi
    rw [← hcell i hi]
    refine hb.cell ?_
    have := World.block_lt_of_cell? _ _ (hcell i hi)
    exact this
end
end Go.Proofs.YtpihgljdbpnehaaDoor
namespace Go.Proofs.YtpihgljdbpnehaaDoor
open Go.ChangeShapes Go.WideShapes Go.ChangeAt Go.RowKit
section
variable {H : Type} {enc : TypeId × Value → H}
theorem args_stay {P : Program} (hl : laidOutB P = true) {W W' : World} (hb : Below W.heap.size W W') (sp : Nat → Bool) :
  ∀ {ts : List TypeId} {vs : List Value} {ds : List (DataW H)} {ps : List MemPlace}, (∀ t ∈ ts, P.readableRec t = true ∧ t < P.types.size) → DataW.TrodAll enc P W 0 (fun _ => true) true ts vs ds ps →
   (∀ x ∈ ps, x.block < W.heap.size) → (∀ x ∈ ps, sp x.block = true) → DataW.TrodAll enc P W' 0 sp true ts vs ds ps
 | [], _, _, _, _, h, _, _ => by
  obtain ⟨rfl, rfl, rfl⟩ := trodAll_nil h
  exact rfl
 | t :: ts, _, _, _, hr, h, hlt, hsp => by
  obtain ⟨v, vs1, d, ds1, a, b, rfl, rfl, rfl, h1, h2⟩ := trodAll_cons h
  exact ⟨a, b, WideElems.Trod_stays hl (hr t (by simp)).1 (hr t (by simp)).2 h1 (fun x hx => hb.same (hlt x (by simp [hx]))) (fun x hx => hsp x (by simp [hx])),
   args_stay hl hb sp (fun t ht => hr t (by simp [ht])) h2 (fun x hx => hlt x (by simp [hx])) (fun x hx => hsp x (by simp [hx])), rfl⟩
/-- The row's last step where the call leaves what was there as it was, whatever the arguments are. -/
theorem post_reads {P : Program} {f : Func} {s : ChangeSpec} {apart fresh handsOn again : Bool} {W W' : World} {args : Array Value} {v : Value} {ds gs : List (DataW H)} {before pv : List MemPlace}
  (hl : laidOutB P = true) (hr : ∀ t ∈ f.params.toList, P.readableRec t = true ∧ t < P.types.size)
  (hW : DataW.Whole enc P f.params.toList s.vars apart W args.toList ds gs before)
  (hA : DataW.TrodAll enc P W 0 (fun _ => true) true f.params.toList args.toList ds before)
  (hres : ∀ (b : Nat) (sp : Nat → Bool) (hd : Bool), DataW.TrodAll enc P W' b sp hd f.resultTypes.toList (v.resultList f.resultTypes.size) (s.fn H (ds ++ gs)).results [])
  (hargs : (s.fn H (ds ++ gs)).args = ds)
  (hvars : ∀ sp : Nat → Bool, DataW.TrodVars enc P W' sp s.vars (s.fn H (ds ++ gs)).vars pv) (hpv : pv = []) (hb : Below W.heap.size W W')
  (hok : ∀ (j : Nat) (t : TypeId) (r : Value), f.resultTypes[j]? = some t → (v.resultList f.resultTypes.size)[j]? = some r → Value.okWide P W' .any 0 t r) :
  s.post enc P f apart fresh handsOn again W args v W' := by
 have hlt : ∀ p ∈ before, p.block < W.heap.size := fun p hp => hW.lt p hp
 have hold : ∀ p ∈ before, (fun b => decide (b < W.heap.size)) p.block = true := fun p hp => by simpa using hlt p hp
 refine ⟨ds, gs, before, [], before, pv, hW, hres _ _ _, hargs.symm ▸ args_stay hl hb _ hr hA hlt hold, hvars _, World.keptBut_mono (fun p hp => ⟨hp, Or.inr (Or.inl hp)⟩) (hb.frame (· ∈ before)), fun _ => ?_⟩
 obtain ⟨_, _, _, _, _, hz, hn⟩ := hW
 refine ⟨hok, _, _, ([] ++ before) ++ pv, ⟨[] ++ before, pv, trodAll_append (hargs.symm ▸ args_stay hl hb _ hr hA hlt (fun _ _ => rfl)) (hres _ _ _), hvars _, rfl, ?_, ?_⟩, ?_⟩
 ·
  intro b off hp
  have hin : MemPlace.cell b off ∈ before := by simpa [hpv] using hp
  rw [hb.frozen (hlt _ hin)]
  exact hz b off hin
 ·
  intro ha
  simpa [hpv] using hn ha
 ·
  intro p hp _
  simpa [hpv] using hp
end
end Go.Proofs.YtpihgljdbpnehaaDoor
namespace Go.Proofs.YtpihgljdbpnehaaDoor
open Go.ChangeShapes Go.WideShapes Go.ChangeAt Go.RowKit
theorem cells_bytes : Tryd.prog.cellsOf 24 = 1 := by kernel_rfl
theorem cells_int : Tryd.prog.cellsOf 3 = 1 := by kernel_rfl
theorem int_ok {n : Int} (h : (Lit.int .i64 n).wf = true) : i64_ok n := by
 simp [Lit.wf, IntKind.min, IntKind.max, IntKind.signed, IntKind.bits] at h
 unfold i64_ok
 omega
section
variable {H : Type} {enc : TypeId × Value → H} {W : World}
set_option maxRecDepth 100000 in
theorem bytes_f {fuel : Nat} {cs : List Value} {x : DataW H × List MemPlace} (hf : DataW.trod enc Tryd.prog W 0 (fun _ => true) true fuel 24 cs = some x) :
  ∃ p c l, cs = [.slice p (List.length l) c] ∧ SB W (.slice p l.length c) l ∧ ∀ x ∈ l, x < 256 := by
 rcases open_ints Tryd.underlying24 Tryd.underlying5 cells_u8 hf with ⟨hcs, hx⟩ | ⟨a, len, cap, zs, hcs, hba, hl, hm, hz, hx, hcell, hwz⟩
 · exact ⟨none, 0, [], hcs, SB.nil _ _ _, fun x hx => by cases hx⟩
 ·
  simp only [if_true] at hz
  have hrange : ∀ i, i < zs.length → 0 ≤ zs.getD i 0 ∧ zs.getD i 0 ≤ 255 := fun i hi => by
   have : zs.getD i 0 = zs[i] := by simp [List.getD, hi]
   rw [this]
   exact wf_u8 (hwz _ (List.getElem_mem hi))
  obtain ⟨l, hL⟩ : ∃ l : List Nat, l = (List.range len).map fun i => (zs.getD i 0).toNat := ⟨_, rfl⟩
  have ll : l.length = len := by rw [hL]; simp
  have bl : ∀ x ∈ l, x < 256 := fun x hx => by
   rw [hL] at hx
   obtain ⟨i, hi, rfl⟩ := List.mem_map.1 hx
   have := hrange i (by have := List.mem_range.1 hi; omega)
   omega
  refine ⟨some a, cap, l, by rw [ll]; exact hcs, ⟨some a, cap, rfl, by rw [ll]; exact hl, ?_⟩, bl⟩
  by_cases h0 : len = 0
  · exact Or.inl (List.eq_nil_of_length_eq_zero (by omega))
  ·
   right
   obtain ⟨b, off, spot⟩ := a
   have hspot : spot = none := by simpa [Addr.add] using World.cell?_spot (hcell 0 (by omega))
   subst hspot
   have hc : ∀ i, i < zs.length → W.cell? ⟨b, off + i, none⟩ = some (.int .u8 (zs.getD i 0)) := fun i hi => by
    have := hcell i hi
    rw [Addr.add_lit] at this
    exact this
   refine ⟨b, off, rfl, fun i hi => ?_, World.block_lt_of_cell? _ _ (hc 0 (by omega))⟩
   have hr := hrange i (by omega)
   rw [hc i (by omega)]
   congr 2
   have : l[i] = (zs.getD i 0).toNat := by simp only [hL, List.getElem_map, List.getElem_range]
   omega
end
end Go.Proofs.YtpihgljdbpnehaaDoor
