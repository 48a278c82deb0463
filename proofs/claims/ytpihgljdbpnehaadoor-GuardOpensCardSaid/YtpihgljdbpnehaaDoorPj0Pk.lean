/- A Cipher's Encrypt; Encrypt: their contracts (printed by genpj.py). A nil Cipher; Encrypt: their contracts; EncC and CipherC as the laws of aes ask them. -/
import Derived.Test.YtpihgljdbpnehaaDoorPh0Pi
import Derived.Test.YtpihgljdbpnehaaDoorLq0Nb
import Derived.Test.YtpihgljdbpnehaaDoorPa0Pc
namespace Go.Proofs.YtpihgljdbpnehaaDoor
open Go.RowKit
theorem mixed_any (b : List Nat) (lb : b.length = 16) (bb : ∀ x ∈ b, x < 256) (w : World) :
  Calls Tryd.prog 82 #[.agg (Iv .u8 (NI b))] w fun e w' => e = .returned (.agg (Iv .u8 (NI (mixedL b)))) ∧ Below w.heap.size w w' := by
 have h := mixed_f (fun i => b.getD i 0) (fun i => getD_lt bb i) w
 rw [LB_of b lb] at h
 exact h
/-- What stands while a block is encrypted: the Cipher, the block, the answer's place. -/
structure EM (w0 : World) (gc : Nat) (k st : List Nat) (w : World) : Prop where
 c : CI w gc (KM boxL k 11) boxL
 b : Blk w w0.heap.size 27 (Iv .u8 (NI st))
 r : Blk w (w0.heap.size + 1) 27 (Iv .u8 (NI (LB fun _ => 0)))
 bel : Below w0.heap.size w0 w
 far : gc < w0.heap.size
theorem EM.drew {w0 w : World} {gc : Nat} {k st : List Nat} (h : EM w0 gc k st w) : EM w0 gc k st w.drew := ⟨h.c.of_block rfl, h.b.drew, h.r.drew, below_drew h.bel, h.far⟩
theorem EM.below {w0 w w1 : World} {gc : Nat} {k st : List Nat} (h : EM w0 gc k st w) (b : Below w.heap.size w w1) : EM w0 gc k st w1 := ⟨h.c.below b, Blk.below' h.b b, Blk.below' h.r b, h.bel.trans (b.mono h.bel.size), h.far⟩
theorem EM.put {w0 w : World} {gc : Nat} {k st : List Nat} (h : EM w0 gc k st w) (l : List Nat) : EM w0 gc k l (w.setRow w0.heap.size (Iv .u8 (NI l))) :=
 have := h.far
 ⟨Blk.rowFar h.c (by omega) _, h.b.row _, h.r.rowFar (by omega) _, below_setRow h.bel (Nat.le_refl _) _, h.far⟩
/-- The same, with the key that is at hand. -/
structure EK (w0 : World) (gc gk : Nat) (k st kk : List Nat) (w : World) : Prop where
 m : EM w0 gc k st w
 k : Blk w gk 27 (Iv .u8 (NI kk))
theorem EK.drew {w0 w : World} {gc gk : Nat} {k st kk : List Nat} (h : EK w0 gc gk k st kk w) : EK w0 gc gk k st kk w.drew := ⟨h.m.drew, h.k.drew⟩
theorem EK.below {w0 w w1 : World} {gc gk : Nat} {k st kk : List Nat} (h : EK w0 gc gk k st kk w) (b : Below w.heap.size w w1) : EK w0 gc gk k st kk w1 := ⟨h.m.below b, Blk.below' h.k b⟩
theorem size_b {a b : List Nat} (ha : a.length = 16) (hb : b.length = 16) : (Iv .u8 (NI a)).size = (Iv .u8 (NI b)).size := by rw [Iv_size, Iv_size, NI_length, NI_length, ha, hb]
set_option maxHeartbeats 8000000 in
set_option maxRecDepth 100000 in
theorem ciph_any (gc : Nat) (k b : List Nat) (lk : k.length = 16) (bk : ∀ x ∈ k, x < 256) (lb : b.length = 16) (bb : ∀ x ∈ b, x < 256) (w : World) (hC : CI w gc (KM boxL k 11) boxL) :
  Calls Tryd.prog 73 #[.pointer (some ⟨gc, 0, none⟩), .agg (Iv .u8 (NI b))] w fun e w' => e = .returned (.agg (Iv .u8 (NI (encL boxL k b)))) ∧ Below w.heap.size w w' := by
 rw [← enc_is boxL_bytes lk]
 have l0 : (ksF boxL k 0).1.length = 16 := lk
 have lz : (LB fun _ => 0).length = 16 := LB_length _
 have lR := KM_length boxL k 11
 go_enter Tryd.func73, Tryd.ntmps73
 go_upto_region 3 with fail
 rename_i aK
 generalize hW : World.alloc (World.alloc w _) _ = W
 have gcl := hC.lt
 have B0 : Below w.heap.size w W := hW ▸ ((Below.refl w.heap.size w).alloc (Nat.le_refl _) _).alloc (by simp) _
 have K0 : Blk W w.heap.size 27 (Iv .u8 (NI b)) := hW ▸ (Blk.new w _ _).alloc _
 have K1 : Blk W (w.heap.size + 1) 27 (Iv .u8 (NI (LB fun _ => 0))) := hW ▸ Blk.new' (by simp) _ (Iv .u8 (NI (LB fun _ => 0)))
 have hM : EM w gc k b W := ⟨hC.below B0, K0, K1, B0, gcl⟩
 clear hW B0 hC K0 K1
 refine wp_region_Z (S := EM w gc k b) 7 (by kernel_rfl) ?_
 replace hM := hM.drew
 generalize W.drew = V at hM ⊢
 have hS := hM
 refine wpAnyZ_takeL 0 rfl (by kernel_rfl) (by kernel_rfl) (by kernel_rfl) (by kernel_rfl) (by kernel_rfl) (fun _ _ _ h => h) ((show YieldsIf _ _ _ _ (Value.agg (Iv .u8 (NI b))) _ from yieldsIf_row_wanted rfl 27 _ rfl (w.heap.size) rfl 27 _ _ (fun _ h => h.b) Tryd.underlying27 rfl (info_bk _ lb))) hS ?_
 simp only [Act.put, List.setIfInBounds_toArray, List.set_cons_zero, List.set_cons_succ]
 refine wpAnyZ_takeL 1 rfl (by kernel_rfl) (by kernel_rfl) (by kernel_rfl) (by kernel_rfl) (by kernel_rfl) (fun _ _ _ h => h) (yieldsIf_move rfl _ rfl (Value.pointer (some ⟨gc, 0, none⟩)) rfl) hS ?_
 simp only [Act.put, List.setIfInBounds_toArray, List.set_cons_zero, List.set_cons_succ]
 refine wpAnyZ_takeL 2 (v := (Value.pointer (some ⟨gc, 0, none⟩))) rfl (by kernel_rfl) (by kernel_rfl) (by kernel_rfl) (by kernel_rfl) (by kernel_rfl) (fun _ _ _ h => h) (Or.inl ⟨by rfl, ?_⟩) hS ?_
 ·
  intro w' hw'
  go_simp
 simp only [Act.put, List.setIfInBounds_toArray, List.set_cons_zero, List.set_cons_succ]
 refine wpAnyZ_takeL 3 (v := (Value.pointer (some ⟨gc, 0, none⟩))) rfl (by kernel_rfl) (by kernel_rfl) (by kernel_rfl) (by kernel_rfl) (by kernel_rfl) (fun _ _ _ h => h) (Or.inl ⟨by rfl, ?_⟩) hS ?_
 ·
  intro w' hw'
  go_simp
 simp only [Act.put, List.setIfInBounds_toArray, List.set_cons_zero, List.set_cons_succ]
 refine wpAnyZ_takeL 4 (v := (Value.pointer (some ⟨gc, 0, none⟩))) rfl (by kernel_rfl) (by kernel_rfl) (by kernel_rfl) (by kernel_rfl) (by kernel_rfl) (fun _ _ _ h => h) (Or.inl ⟨by rfl, ?_⟩) hS ?_
 ·
  intro w' hw'
  go_simp
 simp only [Act.put, List.setIfInBounds_toArray, List.set_cons_zero, List.set_cons_succ]
 refine wpAnyZ_takeL 5 rfl (by kernel_rfl) (by kernel_rfl) (by kernel_rfl) (by kernel_rfl) (by kernel_rfl) (fun _ _ _ h => h) ((show YieldsIf _ _ _ _ (Value.agg (Iv .u8 (NI (ksF boxL k 0).1))) _ from yieldsIf_load_mid rfl 27 _ rfl gc (16 * 0) rfl (cl (ksF boxL k 0).1) _ (fun _ h => h.c.key lk 0 (by omega) (by omega)) Tryd.underlying27 rfl (info_mid _ l0))) hS ?_
 simp only [Act.put, List.setIfInBounds_toArray, List.set_cons_zero, List.set_cons_succ]
 refine zstep 6 rfl rfl (by kernel_rfl) ?_
 unfold Oper.wp execOp
 go_simp
 refine (joined_any b (ksF boxL k 0).1 lb l0 bb bk _).mono ?_
 rintro _ w9 ⟨rfl, b9⟩
 replace hM := hM.below b9
 clear hS b9
 refine ⟨hM, ?_⟩
 have hS := hM
 have lX : (xorB b (ksF boxL k 0).1).length = 16 := LB_length _
 refine zstep 7 rfl rfl (by kernel_rfl) ?_
 refine wp_store_row 27 _ _ rfl (w.heap.size) (Iv .u8 (NI (xorB b (ksF boxL k 0).1))) rfl rfl 27 _ hM.b (info_bk _ lX) (size_b lb lX) (Iv_one _ _) ?_
 refine ⟨fun e => Bool.noConfusion ((e.symm.trans (show _ = true from rfl) : false = true)), ?_⟩
 refine wpAnyZ_done (by kernel_rfl) ?_ _
 refine aK _ _ ?_
 clear aK hS
 have hM2 : EM w gc k (stF boxL k b 0) (w9.setRow w.heap.size (Iv .u8 (NI (xorB b (ksF boxL k 0).1)))) := hM.put _
 clear hM
 generalize World.setRow w9 _ _ = U at *
 clear lX l0 lb
 go_upto_region 5 with fail
 go_loopw [22] (fun i wr => ∃ n : Nat, n ≤ 9 ∧ i = .int .i64 (n : Int) ∧ EM w gc k (stF boxL k b n) wr) (fun i _ => (9 - intOf i).toNat)
 case atStart => exact ⟨0, by omega, rfl, hM2⟩
 case round =>
  clear hM2
  obtain ⟨n, hn, rfl, hM⟩ := hrel
  have lst := stF_length boxL k b n
  have bst := stF_lt boxL_bytes bk bb n
  by_cases h9 : n = 9
  ·
   subst h9
   go_upto_region 9 with fail
   rename_i aK
   refine wp_region_Z (S := EM w gc k (stF boxL k b 9)) 9 (by kernel_rfl) ?_
   replace hM := hM.drew
   generalize wr.drew = V at hM ⊢
   have hS := hM
   have lK := ksF_length (S := boxL) lk 10
   have bK := ksF_lt boxL_bytes bk 10
   have lM : (movedL boxL (stF boxL k b 9)).length = 16 := LB_length _
   have bM := movedL_lt (b := stF boxL k b 9) boxL_bytes
   obtain ⟨st, hst⟩ : ∃ st, st = stF boxL k b 9 := ⟨_, rfl⟩
   rw [← hst] at hM hS lst bst lM bM ⊢
   have HST := Lib.hid hst
   clear hst
   refine wpAnyZ_takeL 0 rfl (by kernel_rfl) (by kernel_rfl) (by kernel_rfl) (by kernel_rfl) (by kernel_rfl) (fun _ _ _ h => h) (yieldsIf_move rfl _ rfl (Value.pointer (some ⟨gc, 0, none⟩)) rfl) hS ?_
   simp only [Act.put, List.setIfInBounds_toArray, List.set_cons_zero, List.set_cons_succ]
   refine wpAnyZ_takeL 1 rfl (by kernel_rfl) (by kernel_rfl) (by kernel_rfl) (by kernel_rfl) (by kernel_rfl) (fun _ _ _ h => h) ((show YieldsIf _ _ _ _ (Value.agg (Iv .u8 (NI st))) _ from yieldsIf_row_wanted rfl 27 _ rfl (w.heap.size) rfl 27 _ _ (fun _ h => h.b) Tryd.underlying27 rfl (info_bk _ lst))) hS ?_
   simp only [Act.put, List.setIfInBounds_toArray, List.set_cons_zero, List.set_cons_succ]
   refine wpAnyZ_takeL 3 rfl (by kernel_rfl) (by kernel_rfl) (by kernel_rfl) (by kernel_rfl) (by kernel_rfl) (fun _ _ _ h => h) (yieldsIf_move rfl _ rfl (Value.pointer (some ⟨gc, 0, none⟩)) rfl) hS ?_
   simp only [Act.put, List.setIfInBounds_toArray, List.set_cons_zero, List.set_cons_succ]
   refine wpAnyZ_takeL 4 (v := (Value.pointer (some ⟨gc, 0, none⟩))) rfl (by kernel_rfl) (by kernel_rfl) (by kernel_rfl) (by kernel_rfl) (by kernel_rfl) (fun _ _ _ h => h) (Or.inl ⟨by rfl, ?_⟩) hS ?_
   ·
    intro w' hw'
    go_simp
   simp only [Act.put, List.setIfInBounds_toArray, List.set_cons_zero, List.set_cons_succ]
   refine wpAnyZ_takeL 5 (v := (Value.pointer (some ⟨gc, 0, none⟩))) rfl (by kernel_rfl) (by kernel_rfl) (by kernel_rfl) (by kernel_rfl) (by kernel_rfl) (fun _ _ _ h => h) (Or.inl ⟨by rfl, ?_⟩) hS ?_
   ·
    intro w' hw'
    go_simp
   simp only [Act.put, List.setIfInBounds_toArray, List.set_cons_zero, List.set_cons_succ]
   refine wpAnyZ_takeL 6 (v := (Value.pointer (some ⟨gc, 16 * 10, none⟩))) rfl (by kernel_rfl) (by kernel_rfl) (by kernel_rfl) (by kernel_rfl) (by kernel_rfl) (fun _ _ _ h => h) (Or.inl ⟨by rfl, ?_⟩) hS ?_
   ·
    intro w' hw'
    go_simp
   simp only [Act.put, List.setIfInBounds_toArray, List.set_cons_zero, List.set_cons_succ]
   refine wpAnyZ_takeL 7 rfl (by kernel_rfl) (by kernel_rfl) (by kernel_rfl) (by kernel_rfl) (by kernel_rfl) (fun _ _ _ h => h) ((show YieldsIf _ _ _ _ (Value.agg (Iv .u8 (NI (ksF boxL k 10).1))) _ from yieldsIf_load_mid rfl 27 _ rfl gc (16 * 10) rfl (cl (ksF boxL k 10).1) _ (fun _ h => h.c.key lk 10 (by omega) (by omega)) Tryd.underlying27 rfl (info_mid _ lK))) hS ?_
   simp only [Act.put, List.setIfInBounds_toArray, List.set_cons_zero, List.set_cons_succ]
   refine zstep 2 rfl rfl (by kernel_rfl) ?_
   unfold Oper.wp execOp
   go_simp
   refine (moved_any gc _ boxL st lR boxL_length lst bst _ hM.c).mono ?_
   rintro _ w9 ⟨rfl, b9⟩
   replace hM := hM.below b9
   clear hS b9
   refine ⟨hM, ?_⟩
   have hS := hM
   refine zstep 8 rfl rfl (by kernel_rfl) ?_
   unfold Oper.wp execOp
   go_simp
   refine (joined_any (movedL boxL st) (ksF boxL k 10).1 lM lK bM bK _).mono ?_
   rintro _ w9 ⟨rfl, b9⟩
   replace hM := hM.below b9
   clear hS b9
   refine ⟨hM, ?_⟩
   have hS := hM
   have lX : (xorB (movedL boxL st) (ksF boxL k 10).1).length = 16 := LB_length _
   have HX := Lib.hid (show xorB (movedL boxL st) (ksF boxL k 10).1 = xorB (movedL boxL st) (ksF boxL k 10).1 from rfl)
   refine zstep 9 rfl rfl (by kernel_rfl) ?_
   refine wp_store_row 27 _ _ rfl (w.heap.size + 1) (Iv .u8 (NI (xorB (movedL boxL st) (ksF boxL k 10).1))) rfl rfl 27 _ hM.r (info_bk _ lX) (size_b lz lX) (Iv_one _ _) ?_
   refine ⟨fun e => Bool.noConfusion ((e.symm.trans (show _ = true from rfl) : false = true)), ?_⟩
   refine wpAnyZ_done (by kernel_rfl) ?_ _
   refine aK _ _ ?_
   clear aK hS
   have RR := Blk.row hM.r (Iv .u8 (NI (xorB (movedL boxL st) (ksF boxL k 10).1)))
   have BB := below_setRow hM.bel (g := w.heap.size + 1) (by omega) (Iv .u8 (NI (xorB (movedL boxL st) (ksF boxL k 10).1)))
   clear hM
   go_wp2
   exact bodyPost_ret (results_cell_row rfl _ _ _ 27 _ (0, 0) _ rfl RR Tryd.underlying27 rfl (info_bk _ lX)) rfl ⟨by rw [HST.out], BB⟩
  ·
   have i1 : (n : Int) < 9 := by omega
   have i0 : (0 : Int) ≤ (n : Int) := by omega
   go_upto_region 6 with fail
   rename_i aK
   have lK := ksF_length (S := boxL) lk (n + 1)
   have bK := ksF_lt boxL_bytes bk (n + 1)
   have i2 : (n : Int) < 11 := by omega
   refine wp_region_seq ?_
   refine wpSeq_yield (S := fun w' => w' = wr) (v := (.pointer (some ⟨gc, 16 * (n + 1), none⟩))) (Or.inl ⟨rfl, fun w' hw' => ?_⟩) rfl ?_
   ·
    have e16 : 16 + 16 * n = 16 * (n + 1) := by omega
    simp only [execOp]
    go_simp
   refine wpSeq_yield (S := fun w' => w' = wr) (show YieldsIf _ _ _ _ (Value.agg (Iv .u8 (NI (ksF boxL k (n + 1)).1))) _ from yieldsIf_load_mid rfl 27 _ rfl gc (16 * (n + 1)) rfl (cl (ksF boxL k (n + 1)).1) _ (fun w' h => h ▸ hM.c.key lk (n + 1) (by omega) (by omega)) Tryd.underlying27 rfl (info_mid _ lK)) rfl ?_
   refine wpSeq_allocQ 27 (Iv .u8 (NI (LB fun _ => 0))) rfl (fun W => by go_simp; rfl) ?_
   intro gk W1 R1 b1 m1
   refine wpSeq_store_row rfl 27 _ _ rfl gk (Iv .u8 (NI (ksF boxL k (n + 1)).1)) rfl rfl 27 _ R1 (info_bk _ lK) (size_b lz lK) (Iv_one _ _) ?_
   refine wpSeq_nil ?_
   refine aK _ _ ?_
   clear aK
   have lr := hM.r.lt
   have lc := hM.far
   replace hM := hM.below b1
   have hK : EK w gc gk k (stF boxL k b n) (ksF boxL k (n + 1)).1 (W1.setRow gk (Iv .u8 (NI (ksF boxL k (n + 1)).1))) :=
    ⟨⟨Blk.rowFar hM.c (by omega) _, hM.b.rowFar (by omega) _, hM.r.rowFar (by omega) _, below_setRow hM.bel (by omega) _, hM.far⟩, R1.row _⟩
   have gkw : w.heap.size + 1 < gk := by omega
   clear R1 b1 m1 hM lr lc
   generalize World.setRow W1 gk _ = U at *
   go_upto_region 7 with fail
   rename_i aK K9
   have eS := Lib.hid (stF_s boxL k b n)
   have lM : (movedL boxL (stF boxL k b n)).length = 16 := LB_length _
   have bM := movedL_lt (b := stF boxL k b n) boxL_bytes
   have lX : (mixedL (movedL boxL (stF boxL k b n))).length = 16 := LB_length _
   have bX := mixedL_lt bM
   have lY : (xorB (mixedL (movedL boxL (stF boxL k b n))) (ksF boxL k (n + 1)).1).length = 16 := LB_length _
   refine wp_region_Z (S := EK w gc gk k (stF boxL k b n) (ksF boxL k (n + 1)).1) 6 (by kernel_rfl) ?_
   replace hM := hK.drew
   clear hK
   generalize U.drew = V at hM ⊢
   have hS := hM
   refine wpAnyZ_takeL 0 rfl (by kernel_rfl) (by kernel_rfl) (by kernel_rfl) (by kernel_rfl) (by kernel_rfl) (fun _ _ _ h => h) (yieldsIf_move rfl _ rfl (Value.pointer (some ⟨gc, 0, none⟩)) rfl) hS ?_
   simp only [Act.put, List.setIfInBounds_toArray, List.set_cons_zero, List.set_cons_succ]
   refine wpAnyZ_takeL 1 rfl (by kernel_rfl) (by kernel_rfl) (by kernel_rfl) (by kernel_rfl) (by kernel_rfl) (fun _ _ _ h => h) ((show YieldsIf _ _ _ _ (Value.agg (Iv .u8 (NI (stF boxL k b n)))) _ from yieldsIf_row_wanted rfl 27 _ rfl (w.heap.size) rfl 27 _ _ (fun _ h => h.m.b) Tryd.underlying27 rfl (info_bk _ lst))) hS ?_
   simp only [Act.put, List.setIfInBounds_toArray, List.set_cons_zero, List.set_cons_succ]
   refine wpAnyZ_takeL 4 rfl (by kernel_rfl) (by kernel_rfl) (by kernel_rfl) (by kernel_rfl) (by kernel_rfl) (fun _ _ _ h => h) ((show YieldsIf _ _ _ _ (Value.agg (Iv .u8 (NI (ksF boxL k (n + 1)).1))) _ from yieldsIf_row_wanted rfl 27 _ rfl (gk) rfl 27 _ _ (fun _ h => h.k) Tryd.underlying27 rfl (info_bk _ lK))) hS ?_
   simp only [Act.put, List.setIfInBounds_toArray, List.set_cons_zero, List.set_cons_succ]
   refine zstep 2 rfl rfl (by kernel_rfl) ?_
   unfold Oper.wp execOp
   go_simp
   refine (moved_any gc _ boxL _ lR boxL_length lst bst _ hM.m.c).mono ?_
   rintro _ w9 ⟨rfl, b9⟩
   replace hM := hM.below b9
   clear hS b9
   refine ⟨hM, ?_⟩
   have hS := hM
   refine zstep 3 rfl rfl (by kernel_rfl) ?_
   unfold Oper.wp execOp
   go_simp
   refine (mixed_any _ lM bM _).mono ?_
   rintro _ w9 ⟨rfl, b9⟩
   replace hM := hM.below b9
   clear hS b9
   refine ⟨hM, ?_⟩
   have hS := hM
   refine zstep 5 rfl rfl (by kernel_rfl) ?_
   unfold Oper.wp execOp
   go_simp
   refine (joined_any _ _ lX lK bX bK _).mono ?_
   rintro _ w9 ⟨rfl, b9⟩
   replace hM := hM.below b9
   clear hS b9
   refine ⟨hM, ?_⟩
   have hS := hM
   refine zstep 6 rfl rfl (by kernel_rfl) ?_
   refine wp_store_row 27 _ _ rfl (w.heap.size) (Iv .u8 (NI (xorB (mixedL (movedL boxL (stF boxL k b n))) (ksF boxL k (n + 1)).1))) rfl rfl 27 _ hM.m.b (info_bk _ lY) (size_b lst lY) (Iv_one _ _) ?_
   refine ⟨fun e => Bool.noConfusion ((e.symm.trans (show _ = true from rfl) : false = true)), ?_⟩
   refine wpAnyZ_done (by kernel_rfl) ?_ _
   refine aK _ _ ?_
   clear aK hS
   have hM2 := hM.m.put (xorB (mixedL (movedL boxL (stF boxL k b n))) (ksF boxL k (n + 1)).1)
   rw [← eS.out] at hM2 ⊢
   clear hM
   generalize World.setRow w9 _ _ = V2 at *
   go_wp2
   exact ⟨⟨n + 1, by omega, by congr 1, hM2⟩, by simp only [intOf]; omega⟩
end Go.Proofs.YtpihgljdbpnehaaDoor
namespace Go.Proofs.YtpihgljdbpnehaaDoor
open Go.RowKit
/-- What stands in Encrypt: key, block, the answer's place. -/
structure FM (w0 : World) (k b : List Nat) (w : World) : Prop where
 k : Blk w w0.heap.size 27 (Iv .u8 (NI k))
 b : Blk w (w0.heap.size + 1) 27 (Iv .u8 (NI b))
 r : Blk w (w0.heap.size + 1 + 1) 27 (Iv .u8 (NI (LB fun _ => 0)))
 bel : Below w0.heap.size w0 w
theorem FM.drew {w0 w : World} {k b : List Nat} (h : FM w0 k b w) : FM w0 k b w.drew := ⟨h.k.drew, h.b.drew, h.r.drew, below_drew h.bel⟩
theorem FM.below {w0 w w1 : World} {k b : List Nat} (h : FM w0 k b w) (c : Below w.heap.size w w1) : FM w0 k b w1 := ⟨Blk.below' h.k c, Blk.below' h.b c, Blk.below' h.r c, h.bel.trans (c.mono h.bel.size)⟩
set_option maxHeartbeats 8000000 in
set_option maxRecDepth 100000 in
theorem enc_any (k b : List Nat) (lk : k.length = 16) (bk : ∀ x ∈ k, x < 256) (lb : b.length = 16) (bb : ∀ x ∈ b, x < 256) (w : World) :
  Calls Tryd.prog 49 #[.agg (Iv .u8 (NI k)), .agg (Iv .u8 (NI b))] w fun e w' => e = .returned (.agg (Iv .u8 (NI (encL boxL k b)))) ∧ Below w.heap.size w w' := by
 have lz : (LB fun _ => 0).length = 16 := LB_length _
 go_enter Tryd.func49, Tryd.ntmps49
 go_upto_region 1 with fail
 rename_i aK
 generalize hW : World.alloc (World.alloc (World.alloc w _) _) _ = W
 have B0 : Below w.heap.size w W := hW ▸ (((Below.refl w.heap.size w).alloc (Nat.le_refl _) _).alloc (by simp) _).alloc (by simp; omega) _
 have K0 : Blk W w.heap.size 27 (Iv .u8 (NI k)) := hW ▸ ((Blk.new w _ _).alloc _).alloc _
 have K1 : Blk W (w.heap.size + 1) 27 (Iv .u8 (NI b)) := hW ▸ (Blk.new' (by simp) _ _).alloc _
 have K2 : Blk W (w.heap.size + 1 + 1) 27 (Iv .u8 (NI (LB fun _ => 0))) := hW ▸ Blk.new' (by simp) _ (Iv .u8 (NI (LB fun _ => 0)))
 have hM : FM w k b W := ⟨K0, K1, K2, B0⟩
 clear hW B0 K0 K1 K2
 have lE := encL_length k b
 obtain ⟨E, hE⟩ : ∃ E, E = encL boxL k b := ⟨_, rfl⟩
 rw [← hE] at lE
 have HE := Lib.hid hE
 clear hE
 refine wp_region_Z (S := FM w k b) 4 (by kernel_rfl) ?_
 replace hM := hM.drew
 generalize W.drew = V at hM ⊢
 have hS := hM
 refine wpAnyZ_takeL 0 rfl (by kernel_rfl) (by kernel_rfl) (by kernel_rfl) (by kernel_rfl) (by kernel_rfl) (fun _ _ _ h => h) ((show YieldsIf _ _ _ _ (Value.agg (Iv .u8 (NI k))) _ from yieldsIf_row_wanted rfl 27 _ rfl (w.heap.size) rfl 27 _ _ (fun _ h => h.k) Tryd.underlying27 rfl (info_bk _ lk))) hS ?_
 simp only [Act.put, List.setIfInBounds_toArray, List.set_cons_zero, List.set_cons_succ]
 refine wpAnyZ_takeL 2 rfl (by kernel_rfl) (by kernel_rfl) (by kernel_rfl) (by kernel_rfl) (by kernel_rfl) (fun _ _ _ h => h) ((show YieldsIf _ _ _ _ (Value.agg (Iv .u8 (NI b))) _ from yieldsIf_row_wanted rfl 27 _ rfl (w.heap.size + 1) rfl 27 _ _ (fun _ h => h.b) Tryd.underlying27 rfl (info_bk _ lb))) hS ?_
 simp only [Act.put, List.setIfInBounds_toArray, List.set_cons_zero, List.set_cons_succ]
 refine zstep 1 rfl rfl (by kernel_rfl) ?_
 unfold Oper.wp execOp
 go_simp
 refine (new_any k lk bk _).mono ?_
 rintro _ w9 ⟨g, rfl, hg, hC, b9⟩
 replace hM := hM.below b9
 clear hS b9
 refine ⟨hM, ?_⟩
 have hS := hM
 have C := Lib.hid (ciph_any g k b lk bk lb bb w9 hC)
 rw [← HE.out] at C
 clear hC
 refine zstep 3 rfl rfl (by kernel_rfl) ?_
 unfold Oper.wp execOp
 go_simp
 refine C.out.mono ?_
 rintro _ w8 ⟨rfl, b9⟩
 replace hM := hM.below b9
 clear hS b9 C
 refine ⟨hM, ?_⟩
 have hS := hM
 refine zstep 4 rfl rfl (by kernel_rfl) ?_
 refine wp_store_row 27 _ _ rfl (w.heap.size + 1 + 1) (Iv .u8 (NI E)) rfl rfl 27 _ hM.r (info_bk _ lE) (size_b lz lE) (Iv_one _ _) ?_
 refine ⟨fun e => Bool.noConfusion ((e.symm.trans (show _ = true from rfl) : false = true)), ?_⟩
 refine wpAnyZ_done (by kernel_rfl) ?_ _
 refine aK _ _ ?_
 clear aK hS
 have RR := Blk.row hM.r (Iv .u8 (NI E))
 have BB := below_setRow hM.bel (g := w.heap.size + 1 + 1) (by omega) (Iv .u8 (NI E))
 clear hM
 go_wp2
 exact bodyPost_ret (results_cell_row rfl _ _ _ 27 _ (0, 0) _ rfl RR Tryd.underlying27 rfl (info_bk _ lE)) rfl ⟨by rw [HE.out], BB⟩
end Go.Proofs.YtpihgljdbpnehaaDoor
