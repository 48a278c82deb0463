/- The program's Finished, Binder, Traffic (printed by gen15/ff.py). -/
import Derived.Test.YtdmhngkedgkndaaDoorF4a0F4b
namespace Go.Proofs.YtdmhngkedgkndaaDoor
open Go.RowKit
def finS : ByteArray := ⟨#[102, 105, 110, 105, 115, 104, 101, 100]⟩
def bndS : ByteArray := ⟨#[101, 120, 116, 32, 98, 105, 110, 100, 101, 114]⟩
/-- That whoever knows a secret has seen what has a sum. -/
def finL (s x : List Nat) : List Nat := hmac cuT sqT (labL s finS [] 32) x
theorem finL_length (s x : List Nat) : (finL s x).length = 32 := hmac_length _ _ _ _
theorem finL_bytes (s x : List Nat) : Bytes (finL s x) := hmac_bytes _ _ _ _
theorem three_alloc (W : World) (t1 t2 t3 : TypeId) (Z1 Z2 Z3 : Array Value) : Blk (((W.alloc (.cells Z1 t1)).alloc (.cells Z2 t2)).alloc (.cells Z3 t3)) W.heap.size t1 Z1 ∧ Blk (((W.alloc (.cells Z1 t1)).alloc (.cells Z2 t2)).alloc (.cells Z3 t3)) (W.heap.size + 1) t2 Z2 ∧ Blk (((W.alloc (.cells Z1 t1)).alloc (.cells Z2 t2)).alloc (.cells Z3 t3)) (W.heap.size + 2) t3 Z3 ∧ Below W.heap.size W (((W.alloc (.cells Z1 t1)).alloc (.cells Z2 t2)).alloc (.cells Z3 t3)) := by
  obtain ⟨h1, h2, b⟩ := two_alloc W t1 t2 Z1 Z2
  have sz : ((W.alloc (.cells Z1 t1)).alloc (.cells Z2 t2)).heap.size = W.heap.size + 2 := by rw [size_alloc1, size_alloc1]
  have K := Blk.new ((W.alloc (.cells Z1 t1)).alloc (.cells Z2 t2)) t3 Z3
  rw [sz] at K
  exact ⟨h1.alloc _, h2.alloc _, K, b.alloc (by rw [sz]; omega) _⟩
set_option maxHeartbeats 8000000 in
set_option maxRecDepth 100000 in
theorem fin_c (s x : List Nat) (ls : s.length = 32) (bs : Bytes s) (lx : x.length = 32) (bx : Bytes x) (W : World) (T : Tab W cuT) (S : Sq W sqT) :
    Calls Tryd.prog 20 #[.agg (Iv .u8 (NI s)), .agg (Iv .u8 (NI x))] W fun e w' => e = .returned (.agg (Iv .u8 (NI (finL s x)))) ∧ Below W.heap.size W w' := by
  have KC := Lib.hid (fun (w : World) (b : Below W.heap.size W w) => key_ok w s finS [] (.slice none 0 0) (T.below b) (S.below b) (SB.nil w none 0) ls bs Bytes.nil (by decide) (Nat.zero_le _))
  have SC := Lib.hid (fun (w : World) (b : Below W.heap.size W w) (kv pv : Value) (hk : SB w kv (labL s finS [] 32)) (hp : SP w pv [x]) => sum_any cuT sqT w kv pv (labL s finS [] 32) [x] (T.below b) (S.below b) hk hp (labL_bytes _ _ _ _) (fun l h => by rw [List.mem_singleton.1 h]; exact bx) (by simp) (by simp) (by rw [labL_length]; decide) (by simp; omega))
  rw [show hmac cuT sqT (labL s finS [] 32) [x].flatten = finL s x by simp [finL]] at SC
  have lK := Lib.hid (labL_length s finS [] 32)
  have lF := Lib.hid (finL_length s x)
  generalize finL s x = F at *
  generalize labL s finS [] 32 = Y at *
  have lS := Lib.hid ls
  have lX := Lib.hid lx
  clear T S bs bx ls lx
  go_enter Tryd.func20, Tryd.ntmps20
  go_upto_region 0 with fail
  rename_i aK
  refine wp_region_seq ?_
  refine wpSeq_wp rfl ?_
  unfold Oper.wp execOp
  go_simp
  refine wpSeq_wp rfl ?_
  unfold Oper.wp execOp
  go_simp
  refine wpSeq_wp rfl ?_
  unfold Oper.wp execOp
  go_simp
  refine wpSeq_nil ?_
  refine (by assumption : ∀ (a : Act) (w : World), _ → _) _ _ ?_
  generalize hW : World.alloc (World.alloc (World.alloc W _) _) _ = w1
  obtain ⟨Z, hZ, K0, K1, K2, b⟩ : ∃ Z : Array Value, Z.size = 32 ∧ Blk w1 W.heap.size 28 (Iv .u8 (NI s)) ∧ Blk w1 (W.heap.size + 1) 28 (Iv .u8 (NI x)) ∧ Blk w1 (W.heap.size + 2) 28 Z ∧ Below W.heap.size W w1 := by
    rw [← hW]
    exact ⟨_, rfl, three_alloc W _ _ _ _ _ _⟩
  clear hW
  go_upto_region 1 with fail
  rename_i aK
  refine wp_region_seq ?_
  refine wpSeq_yield (S := fun w' => w' = w1) (show YieldsIf _ _ _ _ (.agg (Iv .u8 (NI s))) _ from yieldsIf_row_wanted (S := fun w' => w' = w1) rfl 28 _ rfl W.heap.size rfl 28 _ _ (fun _ h => h ▸ K0) Tryd.underlying28 rfl (info_k32 s lS.out)) rfl ?_
  simp only [AP]
  refine wpSeq_wp rfl ?_
  unfold Oper.wp execOp
  go_simp
  refine (KC.out w1 b).mono ?_
  rintro _ w2 ⟨rfl, b2⟩
  replace K1 := K1.below' b2
  replace K2 := K2.below' b2
  replace b := b.trans (b2.mono b.size)
  clear b2 KC K0
  go_simp
  refine wpSeq_wp rfl ?_
  unfold Oper.wp execOp
  go_simp
  refine wpSeq_store_row rfl 28 _ _ rfl w2.heap.size (Iv .u8 (NI Y)) rfl rfl _ _ (Blk.new w2 _ _) (info_k32 Y lK.out) (size_32 (rfl : (List.replicate 32 0).length = 32) lK.out) (u8s_one _) ?_
  simp only [Act.put]
  refine wpSeq_nil ?_
  refine (by assumption : ∀ (a : Act) (w : World), _ → _) _ _ ?_
  generalize hwx : World.setRow _ w2.heap.size _ = w3
  have FX : Blk w3 w2.heap.size 28 (Iv .u8 (NI Y)) ∧ Below w2.heap.size w2 w3 := by
    rw [← hwx]
    exact one_row _ _ _ _
  clear hwx
  obtain ⟨KY, bx⟩ := FX
  replace K1 := K1.below' bx
  replace K2 := K2.below' bx
  replace b := b.trans (bx.mono b.size)
  clear bx
  have bd := below_drew (Below.refl w3.heap.size w3)
  replace K1 := K1.below' bd
  replace K2 := K2.below' bd
  replace KY := KY.below' bd
  replace b := b.trans (bd.mono b.size)
  clear bd
  have sz := b.size
  go_upto_region 2 with fail
  refine wp_region_S (S := fun _ => True) (by kernel_rfl) ?_
  generalize w3.drew = w4 at *
  have hS : True := trivial
  have C1 := sb_key K1 lX.out
  have CY := sb_key KY lK.out
  clear K1 KY
  obtain ⟨gn, hgn⟩ : ∃ k, w2.heap.size = k := ⟨_, rfl⟩
  rw [hgn] at CY ⊢
  clear hgn
  refine wpAnyS_takeL 0 (v := .slice (some ⟨gn, 0, none⟩) 32 32) rfl (by kernel_rfl) (by kernel_rfl) (by kernel_rfl) (fun _ _ _ H => H) (Or.inl ⟨by rfl, fun w' hw' => by (go_simp)⟩) hS ?_
  simp only [AP]
  refine wpAnyS_takeL 1 (v := .slice (some ⟨W.heap.size + 1, 0, none⟩) 32 32) rfl (by kernel_rfl) (by kernel_rfl) (by kernel_rfl) (fun _ _ _ H => H) (Or.inl ⟨by rfl, fun w' hw' => by (go_simp)⟩) hS ?_
  simp only [AP]
  refine gstep 2 rfl rfl (by kernel_rfl) ?_
  unfold Oper.wp execOp
  go_simp
  have P4 := sp_one 22 C1
  have b4 := (Below.refl w4.heap.size w4).alloc (Nat.le_refl _) (.cells #[.slice (some ⟨W.heap.size + 1, 0, none⟩) 32 32] 22)
  replace K2 := K2.below' b4
  replace CY := CY.below b4
  replace b := b.trans (b4.mono b.size)
  clear b4 C1
  generalize World.alloc w4 _ = w5 at *
  refine gstep 3 rfl rfl (by kernel_rfl) ?_
  unfold Oper.wp execOp
  go_simp
  refine (SC.out w5 b _ _ CY P4).mono ?_
  rintro _ w6 ⟨rfl, b6⟩
  replace K2 := K2.below' b6
  replace b := b.trans (b6.mono b.size)
  clear b6 SC CY P4
  refine gstep 4 rfl rfl (by kernel_rfl) ?_
  refine wp_store_row 28 _ _ rfl (W.heap.size + 2) (Iv .u8 (NI F)) rfl rfl 28 _ K2 (info_k32 F lF.out) (by rw [Iv_size, NI_length, lF.out]; exact hZ) (Iv_one _ _) ?_
  refine ⟨trivial, ?_⟩
  simp only [Act.put]
  have KR := K2.row (Iv .u8 (NI F))
  have b9 := below_setRow b (by omega : W.heap.size ≤ W.heap.size + 2) (Iv .u8 (NI F))
  generalize World.setRow w6 _ _ = w9 at *
  clear K2 b
  refine wpAnyS_done (by kernel_rfl) ?_ _
  refine (by assumption : ∀ (a : Act) (w : World), _ → _) _ _ ?_
  go_wp2
  exact bodyPost_ret (results_cell_row rfl _ _ _ 28 _ (0, 0) _ rfl KR Tryd.underlying28 rfl (info_k32 F lF.out)) rfl ⟨rfl, b9⟩
/-- That whoever knows the key has written bytes. -/
def bindL (s b : List Nat) : List Nat := finL (apartL s bndS) (sha cuT sqT b)
theorem bindL_length (s b : List Nat) : (bindL s b).length = 32 := finL_length _ _
set_option maxHeartbeats 8000000 in
set_option maxRecDepth 100000 in
theorem bind_nil (p : Option Addr) (n c : Nat) (W : World) :
    Calls Tryd.prog 18 #[.pointer none, .slice p n c] W fun e w' => e = .returned (.agg (Iv .u8 (NI z32))) ∧ Below W.heap.size W w' := by
  go_enter Tryd.func18, Tryd.ntmps18
  go_upto_region 0 with fail
  rename_i aK
  refine wp_region_seq ?_
  refine wpSeq_wp rfl ?_
  unfold Oper.wp execOp
  go_simp
  refine wpSeq_nil ?_
  refine (by assumption : ∀ (a : Act) (w : World), _ → _) _ _ ?_
  have b := (Below.refl W.heap.size W).alloc (Nat.le_refl _) (.cells (Iv .u8 (NI z32)) 28)
  have K : Blk (W.alloc (.cells (Iv .u8 (NI z32)) 28)) W.heap.size 28 (Iv .u8 (NI z32)) := Blk.new _ _ _
  change Code.wp _ _ _ _ (World.alloc W (.cells (Iv .u8 (NI z32)) 28))
  generalize World.alloc W _ = w1 at *
  go_upto_region 1 with fail
  rename_i aK
  refine wp_region_seq ?_
  refine wpSeq_yield (S := fun _ => True) (yieldsIf_move rfl _ rfl (.pointer none) rfl) trivial ?_
  simp only [AP]
  refine wpSeq_yield (S := fun _ => True) (v := .bool true) (Or.inl ⟨by rfl, fun w' hw' => by (go_simp; try omega)⟩) trivial ?_
  simp only [AP]
  refine wpSeq_nil ?_
  refine (by assumption : ∀ (a : Act) (w : World), _ → _) _ _ ?_
  go_upto_region 2 with fail
  rename_i aK
  refine wp_region_seq ?_
  refine wpSeq_yield (S := fun _ => True) (show YieldsIf _ _ _ _ (.agg (Iv .u8 (NI z32))) _ from yieldsIf_zero rfl rfl) trivial ?_
  simp only [AP]
  refine wpSeq_store_row rfl 28 _ _ rfl W.heap.size (Iv .u8 (NI z32)) rfl rfl _ _ K (info_k32 z32 z32_length) (size_32 z32_length z32_length) (u8s_one _) ?_
  simp only [Act.put]
  refine wpSeq_nil ?_
  refine (by assumption : ∀ (a : Act) (w : World), _ → _) _ _ ?_
  have KR := Blk.row K (Iv .u8 (NI z32))
  have b9 := below_setRow b (Nat.le_refl _) (Iv .u8 (NI z32))
  generalize World.setRow w1 _ _ = w9 at *
  go_wp2
  exact bodyPost_ret (results_cell_row rfl _ _ _ 28 _ (0, 0) _ rfl KR Tryd.underlying28 rfl (info_k32 z32 z32_length)) rfl ⟨rfl, b9⟩
set_option maxHeartbeats 8000000 in
set_option maxRecDepth 100000 in
theorem bind_c (B g : Nat) (v : Value) (m s : List Nat) (k : List Nat) (p : Option Addr) (n c : Nat) (W : World) (h : SS B W g v m s) (T : Tab W cuT) (S : Sq W sqT) (hk : SB W (.slice p n c) k) (bk : Bytes k) (lk : k.length ≤ 100000) :
    Calls Tryd.prog 18 #[.pointer (some ⟨g, 0, none⟩), .slice p n c] W fun e w' => e = .returned (.agg (Iv .u8 (NI (bindL s k)))) ∧ Below W.heap.size W w' := by
  have AC := Lib.hid (fun (w : World) (b : Below W.heap.size W w) => apart_c s bndS h.ls h.bs (by decide) w (T.below b) (S.below b))
  have SC := Lib.hid (fun (w : World) (b : Below W.heap.size W w) (pv : Value) (hp : SP w pv [k]) => sum256_l cuT sqT w pv [k] (T.below b) (S.below b) hp (fun x hx => by rw [List.mem_singleton.1 hx]; exact bk) (by simp) (by simp; omega))
  rw [show [k].flatten = k by simp] at SC
  have FC := Lib.hid (fun (w : World) (b : Below W.heap.size W w) => fin_c (apartL s bndS) (sha cuT sqT k) (apartL_length _ _) (apartL_bytes _ _) (sha_length _ _ _) (sha_bytes _ _ _) w (T.below b) (S.below b))
  rw [show finL (apartL s bndS) (sha cuT sqT k) = bindL s k from rfl] at FC
  have LF := Lib.hid (bindL_length s k)
  generalize bindL s k = F at *
  generalize apartL s bndS = A at *
  generalize sha cuT sqT k = Y at *
  have H := Lib.hid h
  have HK := Lib.hid hk
  clear T S bk lk hk h
  go_enter Tryd.func18, Tryd.ntmps18
  go_upto_region 0 with fail
  rename_i aK
  refine wp_region_seq ?_
  refine wpSeq_wp rfl ?_
  unfold Oper.wp execOp
  go_simp
  refine wpSeq_nil ?_
  refine (by assumption : ∀ (a : Act) (w : World), _ → _) _ _ ?_
  have b := (Below.refl W.heap.size W).alloc (Nat.le_refl _) (.cells (Iv .u8 (NI z32)) 28)
  have K : Blk (W.alloc (.cells (Iv .u8 (NI z32)) 28)) W.heap.size 28 (Iv .u8 (NI z32)) := Blk.new _ _ _
  change Code.wp _ _ _ _ (World.alloc W (.cells (Iv .u8 (NI z32)) 28))
  generalize World.alloc W _ = w1 at *
  go_upto_region 1 with fail
  rename_i aK
  refine wp_region_seq ?_
  refine wpSeq_yield (S := fun _ => True) (yieldsIf_move rfl _ rfl (.pointer (some ⟨g, 0, none⟩)) rfl) trivial ?_
  simp only [AP]
  refine wpSeq_yield (S := fun _ => True) (v := .bool false) (Or.inl ⟨by rfl, fun w' hw' => by (go_simp; try omega)⟩) trivial ?_
  simp only [AP]
  refine wpSeq_nil ?_
  refine (by assumption : ∀ (a : Act) (w : World), _ → _) _ _ ?_
  have H1 := Lib.hid (H.out.below b)
  go_upto_region 3 with fail
  rename_i aK
  refine wp_region_seq ?_
  refine wpSeq_yield (S := fun _ => True) (yieldsIf_move rfl _ rfl (.pointer (some ⟨g, 0, none⟩)) rfl) trivial ?_
  simp only [AP]
  refine wpSeq_yield (S := fun _ => True) (v := .pointer (some ⟨g, 0, none⟩)) (Or.inl ⟨by rfl, fun w' hw' => by go_simp⟩) trivial ?_
  simp only [AP]
  refine wpSeq_yield (S := fun _ => True) (v := .pointer (some ⟨g, 1, none⟩)) (Or.inl ⟨by rfl, fun w' hw' => by go_simp⟩) trivial ?_
  simp only [AP]
  refine wpSeq_yield (S := fun w' => w' = w1) (show YieldsIf _ _ _ _ (.agg (Iv .u8 (NI s))) _ from yieldsIf_secret (S := fun w' => w' = w1) rfl _ rfl B g v m s rfl (fun _ h => h ▸ H1.out)) rfl ?_
  simp only [AP]
  refine wpSeq_wp rfl ?_
  unfold Oper.wp execOp
  go_simp
  refine (AC.out w1 b).mono ?_
  rintro _ w2 ⟨rfl, b2⟩
  replace K := K.below' b2
  replace b := b.trans (b2.mono b.size)
  clear b2 AC H1
  go_simp
  refine wpSeq_yield (S := fun _ => True) (yieldsIf_move rfl _ rfl (.slice p n c) rfl) trivial ?_
  simp only [AP]
  refine wpSeq_wp rfl ?_
  unfold Oper.wp execOp
  go_simp
  have P2 := sp_one 22 (HK.out.below b)
  have b3 := (Below.refl w2.heap.size w2).alloc (Nat.le_refl _) (.cells #[.slice p n c] 22)
  replace K := K.below' b3
  replace b := b.trans (b3.mono b.size)
  clear b3
  obtain ⟨g3, hg3⟩ : ∃ k, w2.heap.size = k := ⟨_, rfl⟩
  generalize World.alloc w2 _ = w3 at *
  rw [hg3] at P2 ⊢
  clear hg3
  refine wpSeq_wp rfl ?_
  unfold Oper.wp execOp
  go_simp
  refine (SC.out w3 b _ P2).mono ?_
  rintro _ w4 ⟨rfl, b4⟩
  replace K := K.below' b4
  replace b := b.trans (b4.mono b.size)
  clear b4 SC P2
  go_simp
  refine wpSeq_wp rfl ?_
  unfold Oper.wp execOp
  go_simp
  refine (FC.out w4 b).mono ?_
  rintro _ w5 ⟨rfl, b5⟩
  replace K := K.below' b5
  replace b := b.trans (b5.mono b.size)
  clear b5 FC
  go_simp
  refine wpSeq_store_row rfl 28 _ _ rfl W.heap.size (Iv .u8 (NI F)) rfl rfl _ _ K (info_k32 F LF.out) (size_32 z32_length LF.out) (u8s_one _) ?_
  simp only [Act.put]
  refine wpSeq_nil ?_
  refine (by assumption : ∀ (a : Act) (w : World), _ → _) _ _ ?_
  have KR := Blk.row K (Iv .u8 (NI F))
  have b9 := below_setRow b (Nat.le_refl _) (Iv .u8 (NI F))
  generalize World.setRow w5 _ _ = w9 at *
  go_wp2
  exact bodyPost_ret (results_cell_row rfl _ _ _ 28 _ (0, 0) _ rfl KR Tryd.underlying28 rfl (info_k32 F LF.out)) rfl ⟨rfl, b9⟩
end Go.Proofs.YtdmhngkedgkndaaDoor
