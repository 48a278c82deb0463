/- The law GuardKeys (printed by gen13/jf.py). -/
import Derived.Test.YtpihgljdbpnehaaDoorNf0KQb
import Derived.Test.YtpihgljdbpnehaaDoorKEc0Qc
import Derived.Test.YtpihgljdbpnehaaDoorQg
namespace Go.Proofs.YtpihgljdbpnehaaDoor
open Go.RowKit
theorem ky_slices {w : World} {g : Nat} {t : TypeId} {K N M : List Nat} (h : Blk w g t (Iv .u8 (NI (K ++ (N ++ M))))) (lK : K.length = 16) (lN : N.length = 12) (lM : M.length = 16) : SB w (.slice (some ⟨g, 0, none⟩) 16 16) K ∧ SB w (.slice (some ⟨g, 16, none⟩) 12 12) N ∧ SB w (.slice (some ⟨g, 28, none⟩) 16 16) M := by
  have A := BA.of_blk h
  have a1 := A.take 16
  have a2 := (A.drop 16).take 12
  have a3 := A.drop 28
  rw [List.take_left' lK] at a1
  rw [List.drop_left' lK, List.take_left' lN] at a2
  rw [show K ++ (N ++ M) = (K ++ N) ++ M by rw [List.append_assoc], List.drop_left' (by rw [List.length_append, lK, lN])] at a3
  exact ⟨SB.of_ba' a1 lK.symm (by omega), SB.of_ba' a2 lN.symm (by omega), SB.of_ba' a3 lM.symm (by omega)⟩
theorem key_slice {w : World} {g : Nat} {t : TypeId} {K : List Nat} (h : Blk w g t (Iv .u8 (NI K))) (lK : K.length = 32) : SB w (.slice (some ⟨g, 0, none⟩) 32 32) K := SB.of_ba' (BA.of_blk h) lK.symm (by omega)
set_option maxHeartbeats 16000000 in
set_option maxRecDepth 100000 in
theorem gkeys_c (OC : OfC) (FC : FirstC) (s id : List Nat) (vi : Value) (W : World) (ls : s.length = 32) (bs : Bytes s) (bi : Bytes id) (h3 : SB W vi id) (T : Tab W cuT) (Q : Sq W sqT) (RR : Ref W cuT sqT) :
    Calls Tryd.prog 3 #[.agg (Iv .u8 (NI s)), vi] W fun e w' => e = .returned (.bool true) ∧ Below W.heap.size W w' := by
  have AW := Lib.hid (fun w (h : Below W.heap.size W w) => gawake_c OC FC w (T.below h) (Q.below h))
  have OCC := Lib.hid (fun w (h : Below W.heap.size W w) => OC s ls bs w (T.below h) (Q.below h))
  have FCC := Lib.hid (fun w (h : Below W.heap.size W w) (hl : id.length ≤ 1000) => FC id vi bi hl w (T.below h) (Q.below h) (h3.below h))
  have bsalt : Bytes saltL := fun x hx => by
    simp only [saltL, List.mem_cons, List.not_mem_nil, or_false] at hx
    omega
  have lF : (firstG id).length = 32 := hmac_length cuT sqT saltL id
  have bF : Bytes (firstG id) := hmac_bytes cuT sqT saltL id
  have MCC := Lib.hid (fun w (h : Below W.heap.size W w) (hl : id.length ≤ 1000) kv (hk : SB w kv saltL) => rmac_any w cuT sqT saltL id bsalt bi kv vi hk (h3.below h) (by decide) (by omega) (RR.below h))
  have LBC := Lib.hid (fun w (t : ByteArray) (m : Nat) (ht : t.size ≤ 249) (hm : m < 256) => rlabel_any w t [] (.slice none 0 0) m (SB.nil w none 0) ht (Nat.zero_le _) hm)
  have EXC := Lib.hid (fun w (h : Below W.heap.size W w) (t : ByteArray) (m : Nat) (ht : t.size ≤ 249) (hm : m ≤ 200) iv hi => rexp_any w cuT sqT s (purpL 0 m (bL t) []) bs (purpL_bytes 0 m t [] (by decide) (by omega) ht (Nat.zero_le _) Bytes.nil) ls (by have := purpL_length 0 m t []; simp at this; omega) iv hi m hm (RR.below h))
  have EXF := Lib.hid (fun w (h : Below W.heap.size W w) (t : ByteArray) (ht : t.size ≤ 249) iv hi => rexp_any w cuT sqT (firstG id) (purpL 0 32 (bL t) []) bF (purpL_bytes 0 32 t [] (by decide) (by decide) ht (Nat.zero_le _) Bytes.nil) lF (by have := purpL_length 0 32 t []; simp at this; omega) iv hi 32 (by decide) (RR.below h))
  rw [show hmac cuT sqT saltL id = firstG id from rfl] at MCC
  have X1 := fun w h iv hi => EXC.out w h sKey 16 (by decide) (by decide) iv hi
  have X2 := fun w h iv hi => EXC.out w h sIv 12 (by decide) (by decide) iv hi
  have X3 := fun w h iv hi => EXC.out w h sHp 16 (by decide) (by decide) iv hi
  have X4 := fun w h iv hi => EXF.out w h sCl (by decide) iv hi
  have X5 := fun w h iv hi => EXF.out w h sSv (by decide) iv hi
  rw [show expandL cuT sqT s (purpL 0 16 (bL sKey) []) 16 = keyG s from rfl] at X1
  rw [show expandL cuT sqT s (purpL 0 12 (bL sIv) []) 12 = nonG s from rfl] at X2
  rw [show expandL cuT sqT s (purpL 0 16 (bL sHp) []) 16 = masG s from rfl] at X3
  rw [show expandL cuT sqT (firstG id) (purpL 0 32 (bL sCl) []) 32 = cliG id from rfl] at X4
  rw [show expandL cuT sqT (firstG id) (purpL 0 32 (bL sSv) []) 32 = srvG id from rfl] at X5
  have L1 := fun w => LBC.out w sKey 16 (by decide) (by decide)
  have L2 := fun w => LBC.out w sIv 12 (by decide) (by decide)
  have L3 := fun w => LBC.out w sHp 16 (by decide) (by decide)
  have L4 := fun w => LBC.out w sCl 32 (by decide) (by decide)
  have L5 := fun w => LBC.out w sSv 32 (by decide) (by decide)
  generalize purpL 0 16 (bL sKey) [] = q1 at *
  generalize purpL 0 12 (bL sIv) [] = q2 at *
  generalize purpL 0 16 (bL sHp) [] = q3 at *
  generalize purpL 0 32 (bL sCl) [] = q4 at *
  generalize purpL 0 32 (bL sSv) [] = q5 at *
  have k1 := keyG_length s
  have k2 := nonG_length s
  have k3 := masG_length s
  have k4 := cliG_length id
  have k5 := srvG_length id
  have KZ0 := keysG_size s
  have KO0 := u8s_one (keysG s)
  rw [show keysG s = keyG s ++ (nonG s ++ masG s) from rfl] at KZ0 KO0 OCC
  generalize keyG s = Kk at *
  generalize nonG s = Nn at *
  generalize masG s = Mm at *
  generalize cliG id = Cc at *
  generalize srvG id = Ss at *
  generalize firstG id = Ff at *
  clear EXC EXF LBC bsalt bi bs RR T Q OC FC bF
  have KL := Lib.hid (And.intro k1 (And.intro k2 (And.intro k3 (And.intro k4 k5))))
  clear k1 k2 k3 k4 k5
  replace X1 := Lib.hid X1
  replace X2 := Lib.hid X2
  replace X3 := Lib.hid X3
  replace X4 := Lib.hid X4
  replace X5 := Lib.hid X5
  replace L1 := Lib.hid L1
  replace L2 := Lib.hid L2
  replace L3 := Lib.hid L3
  replace L4 := Lib.hid L4
  replace L5 := Lib.hid L5
  replace lF := Lib.hid lF
  obtain ⟨KC, hKC⟩ : ∃ KC, Iv .u8 (NI (Kk ++ (Nn ++ Mm))) = KC := ⟨_, rfl⟩
  rw [hKC] at OCC KZ0 KO0
  have HK := Lib.hid hKC
  have KZ := Lib.hid KZ0
  have KO := Lib.hid KO0
  clear hKC KZ0 KO0
  obtain ⟨p3, c3, rfl⟩ := h3.shape
  obtain ⟨n3, hn3⟩ : ∃ k, id.length = k := ⟨_, rfl⟩
  rw [hn3] at h3 FCC MCC ⊢
  clear hn3 h3
  obtain ⟨SS, hSS⟩ : ∃ SS, Iv .u8 (NI s) = SS := ⟨_, rfl⟩
  rw [hSS] at OCC X1 X2 X3 ⊢
  have ksz : (Tryd.prog.info? 23).map (·.size) = some SS.size := by rw [← hSS, Iv_size, NI_length, ls]; exact info_key32
  clear hSS ls
  go_enter Tryd.func3, Tryd.ntmps3
  go_upto_region 0 with fail
  rename_i aK
  refine wp_region_seq ?_
  refine wpSeq_wp rfl ?_
  unfold Oper.wp execOp
  go_simp
  refine wpSeq_yield (S := fun _ => True) (yieldsIf_assign rfl _ rfl (.bool false) rfl) trivial ?_
  simp only [AP]
  refine wpSeq_nil ?_
  refine aK _ _ ?_
  clear aK
  have K := Blk.new W 23 SS
  have b := (Below.refl W.heap.size W).alloc (Nat.le_refl _) (.cells SS 23)
  generalize World.alloc W _ = w1 at *
  go_upto_region 1 with fail
  rename_i aK
  refine wp_region_seq ?_
  refine wpSeq_wp rfl ?_
  unfold Oper.wp execOp
  go_simp
  refine (AW.out w1 b).mono ?_
  rintro _ w2 ⟨rfl, b2⟩
  replace K := K.below' b2
  replace b := b.trans (b2.mono b.size)
  clear b2 AW
  go_simp
  refine wpSeq_yield (S := fun _ => True) (v := .bool false) (Or.inl ⟨by rfl, fun w' hw' => by go_simp⟩) trivial ?_
  simp only [AP]
  refine wpSeq_nil ?_
  refine (by assumption : ∀ (a : Act) (w : World), _ → _) _ _ ?_
  by_cases qn : 100 < n3
  · skip
    go_upto_region 3 with fail
    rename_i aK
    refine wp_region_seq ?_
    refine wpSeq_yield (S := fun _ => True) (yieldsIf_move rfl _ rfl (.slice p3 n3 c3) rfl) trivial ?_
    simp only [AP]
    refine wpSeq_yield (S := fun _ => True) (v := .int .i64 (n3 : Int)) (Or.inl ⟨by rfl, fun w' hw' => by go_simp⟩) trivial ?_
    simp only [AP]
    refine wpSeq_yield (S := fun _ => True) (v := .bool true) (Or.inl ⟨by rfl, fun w' hw' => by (go_simp; try omega)⟩) trivial ?_
    simp only [AP]
    refine wpSeq_nil ?_
    refine (by assumption : ∀ (a : Act) (w : World), _ → _) _ _ ?_
    go_upto_region 4 with fail
    rename_i aK
    refine wp_region_seq ?_
    refine wpSeq_yield (S := fun _ => True) (yieldsIf_assign rfl _ rfl (.bool true) rfl) trivial ?_
    simp only [AP]
    refine wpSeq_nil ?_
    refine (by assumption : ∀ (a : Act) (w : World), _ → _) _ _ ?_
    go_wp2
    go_ret
    exact ⟨rfl, b⟩
  go_upto_region 3 with fail
  rename_i aK
  refine wp_region_seq ?_
  refine wpSeq_yield (S := fun _ => True) (yieldsIf_move rfl _ rfl (.slice p3 n3 c3) rfl) trivial ?_
  simp only [AP]
  refine wpSeq_yield (S := fun _ => True) (v := .int .i64 (n3 : Int)) (Or.inl ⟨by rfl, fun w' hw' => by go_simp⟩) trivial ?_
  simp only [AP]
  refine wpSeq_yield (S := fun _ => True) (v := .bool false) (Or.inl ⟨by rfl, fun w' hw' => by (go_simp; try omega)⟩) trivial ?_
  simp only [AP]
  refine wpSeq_nil ?_
  refine (by assumption : ∀ (a : Act) (w : World), _ → _) _ _ ?_
  have ln : n3 ≤ 1000 := by omega
  clear qn
  go_upto_region 5 with fail
  rename_i aK
  refine wp_region_seq ?_
  refine wpSeq_yield (S := fun w' => w' = w2) (show YieldsIf _ _ _ _ (.agg SS) _ from yieldsIf_row_wanted (S := fun w' => w' = w2) rfl 23 _ rfl W.heap.size rfl 23 _ _ (fun _ h => h ▸ K) Tryd.underlying23 rfl ksz) rfl ?_
  simp only [AP]
  refine wpSeq_wp rfl ?_
  unfold Oper.wp execOp
  go_simp
  refine (OCC.out w2 b).mono ?_
  rintro _ w3 ⟨rfl, b3⟩
  replace K := K.below' b3
  replace b := b.trans (b3.mono b.size)
  clear b3 OCC
  go_simp
  refine wpSeq_wp rfl ?_
  unfold Oper.wp execOp
  go_simp
  refine wpSeq_store_row rfl 30 _ _ rfl w3.heap.size KC rfl rfl _ _ (Blk.new w3 _ _) (info_keys KC KZ.out) (by rw [KZ.out]; rfl) KO.out ?_
  simp only [Act.put]
  refine wpSeq_nil ?_
  refine (by assumption : ∀ (a : Act) (w : World), _ → _) _ _ ?_
  generalize hwx : World.setRow _ w3.heap.size _ = w4
  have FX : Blk w4 w3.heap.size 30 KC ∧ Below w3.heap.size w3 w4 := by
    rw [← hwx]
    exact one_row _ _ _ _
  clear hwx
  obtain ⟨KK, bx⟩ := FX
  replace K := K.below' bx
  replace b := b.trans (bx.mono b.size)
  clear bx
  obtain ⟨g5, hg⟩ : ∃ g, w3.heap.size = g := ⟨_, rfl⟩
  rw [hg] at KK ⊢
  clear hg
  go_upto_region 6 with fail
  rename_i aK
  refine wp_region_seq ?_
  refine wpSeq_yield (S := fun _ => True) (yieldsIf_move rfl _ rfl (.slice p3 n3 c3) rfl) trivial ?_
  simp only [AP]
  refine wpSeq_wp rfl ?_
  unfold Oper.wp execOp
  go_simp
  refine (FCC.out w4 b ln).mono ?_
  rintro _ w5 ⟨rfl, b5⟩
  replace K := K.below' b5
  replace KK := KK.below' b5
  replace b := b.trans (b5.mono b.size)
  clear b5 FCC
  go_simp
  refine wpSeq_yield (S := fun _ => True) (yieldsIf_move rfl _ rfl (.tuple #[.agg (Iv .u8 (NI Cc)), .agg (Iv .u8 (NI Ss))]) rfl) trivial ?_
  simp only [AP]
  refine wpSeq_yield (S := fun _ => True) (v := .agg (Iv .u8 (NI Cc))) (Or.inl ⟨by rfl, fun w' hw' => by go_simp⟩) trivial ?_
  simp only [AP]
  refine wpSeq_yield (S := fun _ => True) (v := .agg (Iv .u8 (NI Ss))) (Or.inl ⟨by rfl, fun w' hw' => by go_simp⟩) trivial ?_
  simp only [AP]
  refine wpSeq_wp rfl ?_
  unfold Oper.wp execOp
  go_simp
  refine wpSeq_wp rfl ?_
  unfold Oper.wp execOp
  go_simp
  generalize hW : World.alloc (World.alloc w5 _) _ = w6
  obtain ⟨Z1, Z2, hZ1, hZ2, J1, J2, b6⟩ : ∃ Z1 Z2 : Array Value, Z1.size = 32 ∧ Z2.size = 32 ∧ Blk w6 w5.heap.size 23 Z1 ∧ Blk w6 (w5.heap.size + 1) 23 Z2 ∧ Below w5.heap.size w5 w6 := by
    rw [← hW]
    exact ⟨_, _, rfl, rfl, two_alloc w5 _ _ _ _⟩
  clear hW
  refine wpSeq_store_row rfl 23 _ _ rfl w5.heap.size (Iv .u8 (NI Cc)) rfl rfl _ _ J1 (info_k32 Cc KL.out.2.2.2.1) (by rw [Iv_size, NI_length, KL.out.2.2.2.1]; exact hZ1) (u8s_one _) ?_
  simp only [Act.put]
  have J1b := J1.row (Iv .u8 (NI Cc))
  have J2b : Blk (w6.setRow w5.heap.size (Iv .u8 (NI Cc))) (w5.heap.size + 1) 23 Z2 := J2.rowFar (by omega) _
  have b7 := below_setRow b6 (Nat.le_refl _) (Iv .u8 (NI Cc))
  generalize World.setRow w6 _ _ = w7 at *
  clear J1 J2 b6
  refine wpSeq_store_row rfl 23 _ _ rfl (w5.heap.size + 1) (Iv .u8 (NI Ss)) rfl rfl _ _ J2b (info_k32 Ss KL.out.2.2.2.2) (by rw [Iv_size, NI_length, KL.out.2.2.2.2]; exact hZ2) (u8s_one _) ?_
  simp only [Act.put]
  have J1 : Blk (w7.setRow (w5.heap.size + 1) (Iv .u8 (NI Ss))) w5.heap.size 23 (Iv .u8 (NI Cc)) := J1b.rowFar (by omega) _
  have J2 := J2b.row (Iv .u8 (NI Ss))
  have b8 := below_setRow b7 (Nat.le_succ _) (Iv .u8 (NI Ss))
  generalize World.setRow w7 _ _ = w8 at *
  clear J1b J2b b7
  replace K := K.below' b8
  replace KK := KK.below' b8
  replace b := b.trans (b8.mono b.size)
  clear b8
  obtain ⟨g6, hg6⟩ : ∃ g, w5.heap.size = g := ⟨_, rfl⟩
  rw [hg6] at J1 J2 ⊢
  clear hg6
  refine wpSeq_nil ?_
  refine (by assumption : ∀ (a : Act) (w : World), _ → _) _ _ ?_
  go_upto_region 7 with fail
  rename_i aK
  refine wp_region_seq ?_
  refine wpSeq_wp rfl ?_
  unfold Oper.wp execOp
  go_simp
  refine wpSeq_wp rfl (wp_conv_const _ _ rfl rfl (Iv .u8 (NI saltL)) 20 20 rfl ?_)
  simp only [AP]
  have hS := ba_mark w8 saltL ((Iv .u8 (NI saltL)).size, (Iv .u8 (NI saltL)).size + 1)
  have b9 := (Below.refl w8.heap.size w8).alloc (Nat.le_refl _) (.cells (Iv .u8 (NI saltL)) 5 ((Iv .u8 (NI saltL)).size, (Iv .u8 (NI saltL)).size + 1))
  generalize World.alloc w8 _ = w9 at *
  replace K := K.below' b9
  replace KK := KK.below' b9
  replace J1 := J1.below' b9
  replace J2 := J2.below' b9
  replace b := b.trans (b9.mono b.size)
  clear b9
  obtain ⟨g8, hg8⟩ : ∃ g, w8.heap.size = g := ⟨_, rfl⟩
  rw [hg8] at hS ⊢
  clear hg8
  refine wpSeq_yield (S := fun _ => True) (yieldsIf_assign rfl _ rfl (.slice (some ⟨g8, 0, none⟩) 20 20) rfl) trivial ?_
  simp only [AP]
  refine wpSeq_nil ?_
  refine (by assumption : ∀ (a : Act) (w : World), _ → _) _ _ ?_
  go_upto_region 8 with fail
  rename_i aK
  refine wp_region_seq ?_
  refine wpSeq_yield (S := fun _ => True) (yieldsIf_move rfl _ rfl (.slice (some ⟨g8, 0, none⟩) 20 20) rfl) trivial ?_
  simp only [AP]
  refine wpSeq_yield (S := fun _ => True) (yieldsIf_move rfl _ rfl (.slice p3 n3 c3) rfl) trivial ?_
  simp only [AP]
  refine wpSeq_wp rfl ?_
  unfold Oper.wp execOp
  go_simp
  refine (MCC.out w9 b ln _ (SB.of_ba' hS rfl (Nat.le_refl 20))).mono ?_
  rintro _ w10 ⟨rfl, b10⟩
  replace K := K.below' b10
  replace KK := KK.below' b10
  replace J1 := J1.below' b10
  replace J2 := J2.below' b10
  replace b := b.trans (b10.mono b.size)
  clear b10 hS MCC
  go_simp
  refine wpSeq_wp rfl ?_
  unfold Oper.wp execOp
  go_simp
  refine wpSeq_store_row rfl 23 _ _ rfl w10.heap.size (Iv .u8 (NI Ff)) rfl rfl _ _ (Blk.new w10 _ _) (info_k32 Ff lF.out) (by rw [Iv_size, NI_length, lF.out]; rfl) (u8s_one _) ?_
  simp only [Act.put]
  refine wpSeq_nil ?_
  refine (by assumption : ∀ (a : Act) (w : World), _ → _) _ _ ?_
  generalize hwx : World.setRow _ w10.heap.size _ = w11
  have FX : Blk w11 w10.heap.size 23 (Iv .u8 (NI Ff)) ∧ Below w10.heap.size w10 w11 := by
    rw [← hwx]
    exact one_row _ _ _ _
  clear hwx
  obtain ⟨KF, bx⟩ := FX
  replace K := K.below' bx
  replace KK := KK.below' bx
  replace J1 := J1.below' bx
  replace J2 := J2.below' bx
  replace b := b.trans (bx.mono b.size)
  clear bx
  obtain ⟨g9, hg⟩ : ∃ g, w10.heap.size = g := ⟨_, rfl⟩
  rw [hg] at KF ⊢
  clear hg
  have bd := below_drew (Below.refl w11.heap.size w11)
  replace K := K.below' bd
  replace KK := KK.below' bd
  replace J1 := J1.below' bd
  replace J2 := J2.below' bd
  replace KF := KF.below' bd
  replace b := b.trans (bd.mono b.size)
  clear bd
  go_upto_region 9 with fail
  rename_i aK
  refine wp_region_S (S := fun w' => Below w11.drew.heap.size w11.drew w') (by kernel_rfl) ?_
  generalize w11.drew = w12 at *
  have hS := Below.refl w12.heap.size w12
  have RF := Lib.hid (fun (w' : World) (h : Below w12.heap.size w12 w') => KF.below' h)
  refine wpAnyS_takeL 0 (v := .agg (Iv .u8 (NI Ff))) rfl (by kernel_rfl) (by kernel_rfl) (by kernel_rfl) (fun _ _ _ H => H) (show YieldsIf _ _ _ _ (.agg (Iv .u8 (NI Ff))) _ from yieldsIf_row_wanted (S := fun w' => Below w12.heap.size w12 w') rfl 23 _ rfl g9 rfl 23 _ _ RF.out Tryd.underlying23 rfl (info_k32 Ff lF.out)) hS ?_
  simp only [AP]
  refine wpAnyS_takeL 3 (v := .agg (Iv .u8 (NI Ff))) rfl (by kernel_rfl) (by kernel_rfl) (by kernel_rfl) (fun _ _ _ H => H) (show YieldsIf _ _ _ _ (.agg (Iv .u8 (NI Ff))) _ from yieldsIf_row_wanted (S := fun w' => Below w12.heap.size w12 w') rfl 23 _ rfl g9 rfl 23 _ _ RF.out Tryd.underlying23 rfl (info_k32 Ff lF.out)) hS ?_
  simp only [AP]
  clear hS RF KF
  refine gstep 1 rfl rfl (by kernel_rfl) ?_
  unfold Oper.wp execOp
  go_simp
  refine (L4.out w12).mono ?_
  rintro _ w13 ⟨v30, rfl, Sv30, bq⟩
  have h13 := bq
  refine ⟨h13, ?_⟩
  replace K := K.below' bq
  replace KK := KK.below' bq
  replace J1 := J1.below' bq
  replace J2 := J2.below' bq
  replace b := b.trans (bq.mono b.size)
  clear bq L4
  refine gstep 2 rfl rfl (by kernel_rfl) ?_
  unfold Oper.wp execOp
  go_simp
  refine (X4.out w13 b v30 Sv30).mono ?_
  rintro _ w14 ⟨v31, rfl, Sv31, bq⟩
  have h14 := h13.trans (bq.mono h13.size)
  refine ⟨h14, ?_⟩
  replace K := K.below' bq
  replace KK := KK.below' bq
  replace J1 := J1.below' bq
  replace J2 := J2.below' bq
  replace b := b.trans (bq.mono b.size)
  clear bq X4 h13 Sv30
  refine gstep 4 rfl rfl (by kernel_rfl) ?_
  unfold Oper.wp execOp
  go_simp
  refine (L5.out w14).mono ?_
  rintro _ w15 ⟨v33, rfl, Sv33, bq⟩
  have h15 := h14.trans (bq.mono h14.size)
  refine ⟨h15, ?_⟩
  replace K := K.below' bq
  replace KK := KK.below' bq
  replace J1 := J1.below' bq
  replace J2 := J2.below' bq
  replace Sv31 := Sv31.below bq
  replace b := b.trans (bq.mono b.size)
  clear bq L5 h14
  refine gstep 5 rfl rfl (by kernel_rfl) ?_
  unfold Oper.wp execOp
  go_simp
  refine (X5.out w15 b v33 Sv33).mono ?_
  rintro _ w16 ⟨v34, rfl, Sv34, bq⟩
  have hS := h15.trans (bq.mono h15.size)
  refine ⟨hS, ?_⟩
  replace K := K.below' bq
  replace KK := KK.below' bq
  replace J1 := J1.below' bq
  replace J2 := J2.below' bq
  replace Sv31 := Sv31.below bq
  replace b := b.trans (bq.mono b.size)
  clear bq X5 h15 Sv33
  refine wpAnyS_takeL 6 (v := v31) rfl (by kernel_rfl) (by kernel_rfl) (by kernel_rfl) (fun _ _ _ H => H) (yieldsIf_assign rfl _ rfl (v31) rfl) hS ?_
  simp only [AP]
  refine wpAnyS_takeL 7 (v := v34) rfl (by kernel_rfl) (by kernel_rfl) (by kernel_rfl) (fun _ _ _ H => H) (yieldsIf_assign rfl _ rfl (v34) rfl) hS ?_
  simp only [AP]
  refine wpAnyS_done (by kernel_rfl) ?_ _
  refine (by assumption : ∀ (a : Act) (w : World), _ → _) _ _ ?_
  clear aK hS
  have bd := below_drew (Below.refl w16.heap.size w16)
  replace K := K.below' bd
  replace KK := KK.below' bd
  replace J1 := J1.below' bd
  replace J2 := J2.below' bd
  replace b := b.trans (bd.mono b.size)
  replace Sv31 := Sv31.below bd
  replace Sv34 := Sv34.below bd
  clear bd
  rw [← HK.out] at KK
  have SLk := ky_slices KK KL.out.1 KL.out.2.1 KL.out.2.2.1
  have SL1 := SLk.1
  have SL2 := SLk.2.1
  have SL3 := SLk.2.2
  have SL4 := key_slice J1 KL.out.2.2.2.1
  have SL5 := key_slice J2 KL.out.2.2.2.2
  clear SLk KK J1 J2
  go_upto_region 10 with fail
  rename_i aK
  refine wp_region_S (S := fun w' => Below w16.drew.heap.size w16.drew w') (by kernel_rfl) ?_
  generalize w16.drew = w20 at *
  have hS := Below.refl w20.heap.size w20
  have RK := Lib.hid (fun (w' : World) (h : Below w20.heap.size w20 w') => K.below' h)
  have C1 := Lib.hid (fun (w' : World) (h : Below w20.heap.size w20 w') => SL1.below h)
  have C2 := Lib.hid (fun (w' : World) (h : Below w20.heap.size w20 w') => SL2.below h)
  have C3 := Lib.hid (fun (w' : World) (h : Below w20.heap.size w20 w') => SL3.below h)
  have C4 := Lib.hid (fun (w' : World) (h : Below w20.heap.size w20 w') => SL4.below h)
  have C5 := Lib.hid (fun (w' : World) (h : Below w20.heap.size w20 w') => SL5.below h)
  have D4 := Lib.hid (fun (w' : World) (h : Below w20.heap.size w20 w') => Sv31.below h)
  have D5 := Lib.hid (fun (w' : World) (h : Below w20.heap.size w20 w') => Sv34.below h)
  clear SL1 SL2 SL3 SL4 SL5 Sv31 Sv34 K
  refine wpAnyS_takeL 0 (v := .pointer (some ⟨g5, 0, none⟩)) rfl (by kernel_rfl) (by kernel_rfl) (by kernel_rfl) (fun _ _ _ H => H) (Or.inl ⟨by rfl, fun w' hw' => by (go_simp)⟩) hS ?_
  simp only [AP]
  refine wpAnyS_takeL 1 (v := .slice (some ⟨g5, 0, none⟩) 16 16) rfl (by kernel_rfl) (by kernel_rfl) (by kernel_rfl) (fun _ _ _ H => H) (Or.inl ⟨by rfl, fun w' hw' => by (go_simp)⟩) hS ?_
  simp only [AP]
  refine wpAnyS_takeL 2 (v := .string (strB (Kk))) rfl (by kernel_rfl) (by kernel_rfl) (by kernel_rfl) (fun _ _ _ H => H) (yieldsIf_conv (S := fun w' => Below w20.heap.size w20 w') rfl _ rfl (.slice (some ⟨g5, 0, none⟩) 16 16) rfl (Kk) C1.out) hS ?_
  simp only [AP]
  refine wpAnyS_takeL 3 (v := .agg SS) rfl (by kernel_rfl) (by kernel_rfl) (by kernel_rfl) (fun _ _ _ H => H) (show YieldsIf _ _ _ _ (.agg SS) _ from yieldsIf_row_wanted (S := fun w' => Below w20.heap.size w20 w') rfl 23 _ rfl W.heap.size rfl 23 _ _ RK.out Tryd.underlying23 rfl ksz) hS ?_
  simp only [AP]
  refine gstep 4 rfl rfl (by kernel_rfl) ?_
  unfold Oper.wp execOp
  go_simp
  refine (L1.out w20).mono ?_
  rintro _ w21 ⟨v39, rfl, Sv39, bq⟩
  have ha0 := hS.trans (bq.mono hS.size)
  refine ⟨ha0, ?_⟩
  replace b := b.trans (bq.mono b.size)
  clear bq
  refine gstep 5 rfl rfl (by kernel_rfl) ?_
  unfold Oper.wp execOp
  go_simp
  refine (X1.out w21 b v39 Sv39).mono ?_
  rintro _ w22 ⟨v40, rfl, Sv40, bq⟩
  have hb0 := ha0.trans (bq.mono ha0.size)
  refine ⟨hb0, ?_⟩
  replace b := b.trans (bq.mono b.size)
  clear bq ha0 Sv39
  refine gstep 6 rfl rfl (by kernel_rfl) (wp_conv _ _ rfl rfl v40 rfl Kk Sv40 ⟨hb0, ?_⟩)
  simp only [AP]
  clear Sv40
  refine wpAnyS_takeL 7 (v := .bool true) rfl (by kernel_rfl) (by kernel_rfl) (by kernel_rfl) (fun _ _ _ H => H) (yieldsIf_strB rfl _ _ rfl (Kk) (Kk) rfl rfl rfl) hb0 ?_
  simp only [AP]
  refine wpAnyS_takeL 8 (v := .bool true) rfl (by kernel_rfl) (by kernel_rfl) (by kernel_rfl) (fun _ _ _ H => H) (yieldsIf_move rfl _ rfl (.bool true) rfl) hb0 ?_
  simp only [AP]
  refine wpAnyS_takeL 9 (v := .pointer (some ⟨g5, 16, none⟩)) rfl (by kernel_rfl) (by kernel_rfl) (by kernel_rfl) (fun _ _ _ H => H) (Or.inl ⟨by rfl, fun w' hw' => by (go_simp)⟩) hb0 ?_
  simp only [AP]
  refine wpAnyS_takeL 10 (v := .slice (some ⟨g5, 16, none⟩) 12 12) rfl (by kernel_rfl) (by kernel_rfl) (by kernel_rfl) (fun _ _ _ H => H) (Or.inl ⟨by rfl, fun w' hw' => by (go_simp)⟩) hb0 ?_
  simp only [AP]
  refine wpAnyS_takeL 11 (v := .string (strB (Nn))) rfl (by kernel_rfl) (by kernel_rfl) (by kernel_rfl) (fun _ _ _ H => H) (yieldsIf_conv (S := fun w' => Below w20.heap.size w20 w') rfl _ rfl (.slice (some ⟨g5, 16, none⟩) 12 12) rfl (Nn) C2.out) hb0 ?_
  simp only [AP]
  refine wpAnyS_takeL 12 (v := .agg SS) rfl (by kernel_rfl) (by kernel_rfl) (by kernel_rfl) (fun _ _ _ H => H) (show YieldsIf _ _ _ _ (.agg SS) _ from yieldsIf_row_wanted (S := fun w' => Below w20.heap.size w20 w') rfl 23 _ rfl W.heap.size rfl 23 _ _ RK.out Tryd.underlying23 rfl ksz) hb0 ?_
  simp only [AP]
  refine gstep 13 rfl rfl (by kernel_rfl) ?_
  unfold Oper.wp execOp
  go_simp
  refine (L2.out w22).mono ?_
  rintro _ w23 ⟨v48, rfl, Sv48, bq⟩
  have ha1 := hb0.trans (bq.mono hb0.size)
  refine ⟨ha1, ?_⟩
  replace b := b.trans (bq.mono b.size)
  clear bq
  refine gstep 14 rfl rfl (by kernel_rfl) ?_
  unfold Oper.wp execOp
  go_simp
  refine (X2.out w23 b v48 Sv48).mono ?_
  rintro _ w24 ⟨v49, rfl, Sv49, bq⟩
  have hb1 := ha1.trans (bq.mono ha1.size)
  refine ⟨hb1, ?_⟩
  replace b := b.trans (bq.mono b.size)
  clear bq ha1 Sv48
  refine gstep 15 rfl rfl (by kernel_rfl) (wp_conv _ _ rfl rfl v49 rfl Nn Sv49 ⟨hb1, ?_⟩)
  simp only [AP]
  clear Sv49
  refine wpAnyS_takeL 16 (v := .bool true) rfl (by kernel_rfl) (by kernel_rfl) (by kernel_rfl) (fun _ _ _ H => H) (yieldsIf_strB rfl _ _ rfl (Nn) (Nn) rfl rfl rfl) hb1 ?_
  simp only [AP]
  refine wpAnyS_takeL 17 (v := .bool true) rfl (by kernel_rfl) (by kernel_rfl) (by kernel_rfl) (fun _ _ _ H => H) (yieldsIf_pick rfl _ _ _ rfl true rfl (.bool true) rfl) hb1 ?_
  simp only [AP]
  refine wpAnyS_takeL 18 (v := .bool true) rfl (by kernel_rfl) (by kernel_rfl) (by kernel_rfl) (fun _ _ _ H => H) (yieldsIf_move rfl _ rfl (.bool true) rfl) hb1 ?_
  simp only [AP]
  refine wpAnyS_takeL 19 (v := .pointer (some ⟨g5, 28, none⟩)) rfl (by kernel_rfl) (by kernel_rfl) (by kernel_rfl) (fun _ _ _ H => H) (Or.inl ⟨by rfl, fun w' hw' => by (go_simp)⟩) hb1 ?_
  simp only [AP]
  refine wpAnyS_takeL 20 (v := .slice (some ⟨g5, 28, none⟩) 16 16) rfl (by kernel_rfl) (by kernel_rfl) (by kernel_rfl) (fun _ _ _ H => H) (Or.inl ⟨by rfl, fun w' hw' => by (go_simp)⟩) hb1 ?_
  simp only [AP]
  refine wpAnyS_takeL 21 (v := .string (strB (Mm))) rfl (by kernel_rfl) (by kernel_rfl) (by kernel_rfl) (fun _ _ _ H => H) (yieldsIf_conv (S := fun w' => Below w20.heap.size w20 w') rfl _ rfl (.slice (some ⟨g5, 28, none⟩) 16 16) rfl (Mm) C3.out) hb1 ?_
  simp only [AP]
  refine wpAnyS_takeL 22 (v := .agg SS) rfl (by kernel_rfl) (by kernel_rfl) (by kernel_rfl) (fun _ _ _ H => H) (show YieldsIf _ _ _ _ (.agg SS) _ from yieldsIf_row_wanted (S := fun w' => Below w20.heap.size w20 w') rfl 23 _ rfl W.heap.size rfl 23 _ _ RK.out Tryd.underlying23 rfl ksz) hb1 ?_
  simp only [AP]
  refine gstep 23 rfl rfl (by kernel_rfl) ?_
  unfold Oper.wp execOp
  go_simp
  refine (L3.out w24).mono ?_
  rintro _ w25 ⟨v58, rfl, Sv58, bq⟩
  have ha2 := hb1.trans (bq.mono hb1.size)
  refine ⟨ha2, ?_⟩
  replace b := b.trans (bq.mono b.size)
  clear bq
  refine gstep 24 rfl rfl (by kernel_rfl) ?_
  unfold Oper.wp execOp
  go_simp
  refine (X3.out w25 b v58 Sv58).mono ?_
  rintro _ w26 ⟨v59, rfl, Sv59, bq⟩
  have hb2 := ha2.trans (bq.mono ha2.size)
  refine ⟨hb2, ?_⟩
  replace b := b.trans (bq.mono b.size)
  clear bq ha2 Sv58
  refine gstep 25 rfl rfl (by kernel_rfl) (wp_conv _ _ rfl rfl v59 rfl Mm Sv59 ⟨hb2, ?_⟩)
  simp only [AP]
  clear Sv59
  refine wpAnyS_takeL 26 (v := .bool true) rfl (by kernel_rfl) (by kernel_rfl) (by kernel_rfl) (fun _ _ _ H => H) (yieldsIf_strB rfl _ _ rfl (Mm) (Mm) rfl rfl rfl) hb2 ?_
  simp only [AP]
  refine wpAnyS_takeL 27 (v := .bool true) rfl (by kernel_rfl) (by kernel_rfl) (by kernel_rfl) (fun _ _ _ H => H) (yieldsIf_pick rfl _ _ _ rfl true rfl (.bool true) rfl) hb2 ?_
  simp only [AP]
  refine wpAnyS_takeL 28 (v := .bool true) rfl (by kernel_rfl) (by kernel_rfl) (by kernel_rfl) (fun _ _ _ H => H) (yieldsIf_move rfl _ rfl (.bool true) rfl) hb2 ?_
  simp only [AP]
  refine wpAnyS_takeL 29 (v := .slice (some ⟨g6, 0, none⟩) 32 32) rfl (by kernel_rfl) (by kernel_rfl) (by kernel_rfl) (fun _ _ _ H => H) (Or.inl ⟨by rfl, fun w' hw' => by (go_simp)⟩) hb2 ?_
  simp only [AP]
  refine wpAnyS_takeL 30 (v := .string (strB (Cc))) rfl (by kernel_rfl) (by kernel_rfl) (by kernel_rfl) (fun _ _ _ H => H) (yieldsIf_conv (S := fun w' => Below w20.heap.size w20 w') rfl _ rfl (.slice (some ⟨g6, 0, none⟩) 32 32) rfl (Cc) C4.out) hb2 ?_
  simp only [AP]
  refine wpAnyS_takeL 31 (v := v31) rfl (by kernel_rfl) (by kernel_rfl) (by kernel_rfl) (fun _ _ _ H => H) (yieldsIf_move rfl _ rfl (v31) rfl) hb2 ?_
  simp only [AP]
  refine wpAnyS_takeL 32 (v := .string (strB (Cc))) rfl (by kernel_rfl) (by kernel_rfl) (by kernel_rfl) (fun _ _ _ H => H) (yieldsIf_conv (S := fun w' => Below w20.heap.size w20 w') rfl _ rfl (v31) rfl (Cc) D4.out) hb2 ?_
  simp only [AP]
  refine wpAnyS_takeL 33 (v := .bool true) rfl (by kernel_rfl) (by kernel_rfl) (by kernel_rfl) (fun _ _ _ H => H) (yieldsIf_strB rfl _ _ rfl (Cc) (Cc) rfl rfl rfl) hb2 ?_
  simp only [AP]
  refine wpAnyS_takeL 34 (v := .bool true) rfl (by kernel_rfl) (by kernel_rfl) (by kernel_rfl) (fun _ _ _ H => H) (yieldsIf_pick rfl _ _ _ rfl true rfl (.bool true) rfl) hb2 ?_
  simp only [AP]
  refine wpAnyS_takeL 35 (v := .bool true) rfl (by kernel_rfl) (by kernel_rfl) (by kernel_rfl) (fun _ _ _ H => H) (yieldsIf_move rfl _ rfl (.bool true) rfl) hb2 ?_
  simp only [AP]
  refine wpAnyS_takeL 36 (v := .slice (some ⟨g6 + 1, 0, none⟩) 32 32) rfl (by kernel_rfl) (by kernel_rfl) (by kernel_rfl) (fun _ _ _ H => H) (Or.inl ⟨by rfl, fun w' hw' => by (go_simp)⟩) hb2 ?_
  simp only [AP]
  refine wpAnyS_takeL 37 (v := .string (strB (Ss))) rfl (by kernel_rfl) (by kernel_rfl) (by kernel_rfl) (fun _ _ _ H => H) (yieldsIf_conv (S := fun w' => Below w20.heap.size w20 w') rfl _ rfl (.slice (some ⟨g6 + 1, 0, none⟩) 32 32) rfl (Ss) C5.out) hb2 ?_
  simp only [AP]
  refine wpAnyS_takeL 38 (v := v34) rfl (by kernel_rfl) (by kernel_rfl) (by kernel_rfl) (fun _ _ _ H => H) (yieldsIf_move rfl _ rfl (v34) rfl) hb2 ?_
  simp only [AP]
  refine wpAnyS_takeL 39 (v := .string (strB (Ss))) rfl (by kernel_rfl) (by kernel_rfl) (by kernel_rfl) (fun _ _ _ H => H) (yieldsIf_conv (S := fun w' => Below w20.heap.size w20 w') rfl _ rfl (v34) rfl (Ss) D5.out) hb2 ?_
  simp only [AP]
  refine wpAnyS_takeL 40 (v := .bool true) rfl (by kernel_rfl) (by kernel_rfl) (by kernel_rfl) (fun _ _ _ H => H) (yieldsIf_strB rfl _ _ rfl (Ss) (Ss) rfl rfl rfl) hb2 ?_
  simp only [AP]
  refine wpAnyS_takeL 41 (v := .bool true) rfl (by kernel_rfl) (by kernel_rfl) (by kernel_rfl) (fun _ _ _ H => H) (yieldsIf_pick rfl _ _ _ rfl true rfl (.bool true) rfl) hb2 ?_
  simp only [AP]
  refine wpAnyS_takeL 42 (v := .bool true) rfl (by kernel_rfl) (by kernel_rfl) (by kernel_rfl) (fun _ _ _ H => H) (yieldsIf_assign rfl _ rfl (.bool true) rfl) hb2 ?_
  simp only [AP]
  refine wpAnyS_done (by kernel_rfl) ?_ _
  refine (by assumption : ∀ (a : Act) (w : World), _ → _) _ _ ?_
  clear aK
  go_wp2
  go_ret
  exact ⟨rfl, b⟩
end Go.Proofs.YtpihgljdbpnehaaDoor
