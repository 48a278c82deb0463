/- A nil Cipher; Encrypt: their contracts; EncC and CipherC as the laws of aes ask them. -/
import Derived.Test.YtnkjelamadpllaaPj
import Derived.Test.YtnkjelamadpllaaKb
namespace Go.Proofs.Ytnkjelamadpllaa
open Go.RowKit

set_option maxHeartbeats 4000000 in
set_option maxRecDepth 100000 in
theorem nil_any (b : List Nat) (lb : b.length = 16) (bb : ∀ x ∈ b, x < 256) (w : World) :
    Calls Try.prog 12 #[.pointer none, .agg (Iv .u8 (NI b))] w fun e w' => e = .returned (.agg (Iv .u8 (NI z16))) ∧ Below w.heap.size w w' := by
  go_enter Try.func12, Try.ntmps12
  go_upto_region 2 with fail
  generalize hW : World.alloc (World.alloc w _) _ = W
  have B0 : Below w.heap.size w W := hW ▸ ((Below.refl w.heap.size w).alloc (Nat.le_refl _) _).alloc (by simp) _
  have K1 : Blk W (w.heap.size + 1) 24 (Iv .u8 (NI z16)) := hW ▸ Blk.new' (by simp) _ (Iv .u8 (NI z16))
  clear hW
  go_wp2_with (refine wpList_store_row rfl 24 _ _ rfl (w.heap.size + 1) (Iv .u8 (NI z16)) rfl rfl 24 _ K1 (info_bk _ rfl) rfl (Iv_one _ _) ?_)
  exact bodyPost_ret (results_cell_row rfl _ _ _ 24 _ (0, 0) _ rfl (Blk.row K1 (Iv .u8 (NI z16))) Try.underlying24 rfl (info_bk _ rfl)) rfl ⟨rfl, below_setRow B0 (by omega) _⟩
/-- What stands in Encrypt: key, block, the answer's place. -/
structure FM (w0 : World) (k b : List Nat) (w : World) : Prop where
  k : Blk w w0.heap.size 24 (Iv .u8 (NI k))
  b : Blk w (w0.heap.size + 1) 24 (Iv .u8 (NI b))
  r : Blk w (w0.heap.size + 1 + 1) 24 (Iv .u8 (NI (LB fun _ => 0)))
  bel : Below w0.heap.size w0 w
theorem FM.drew {w0 w : World} {k b : List Nat} (h : FM w0 k b w) : FM w0 k b w.drew := ⟨h.k.drew, h.b.drew, h.r.drew, below_drew h.bel⟩
theorem FM.below {w0 w w1 : World} {k b : List Nat} (h : FM w0 k b w) (c : Below w.heap.size w w1) : FM w0 k b w1 := ⟨Blk.below' h.k c, Blk.below' h.b c, Blk.below' h.r c, h.bel.trans (c.mono h.bel.size)⟩
set_option maxHeartbeats 8000000 in
set_option maxRecDepth 100000 in
theorem enc_any (k b : List Nat) (lk : k.length = 16) (bk : ∀ x ∈ k, x < 256) (lb : b.length = 16) (bb : ∀ x ∈ b, x < 256) (w : World) :
    Calls Try.prog 8 #[.agg (Iv .u8 (NI k)), .agg (Iv .u8 (NI b))] w fun e w' => e = .returned (.agg (Iv .u8 (NI (encL boxL k b)))) ∧ Below w.heap.size w w' := by
  have lz : (LB fun _ => 0).length = 16 := LB_length _
  go_enter Try.func8, Try.ntmps8
  go_upto_region 1 with fail
  rename_i aK
  generalize hW : World.alloc (World.alloc (World.alloc w _) _) _ = W
  have B0 : Below w.heap.size w W := hW ▸ (((Below.refl w.heap.size w).alloc (Nat.le_refl _) _).alloc (by simp) _).alloc (by simp; omega) _
  have K0 : Blk W w.heap.size 24 (Iv .u8 (NI k)) := hW ▸ ((Blk.new w _ _).alloc _).alloc _
  have K1 : Blk W (w.heap.size + 1) 24 (Iv .u8 (NI b)) := hW ▸ (Blk.new' (by simp) _ _).alloc _
  have K2 : Blk W (w.heap.size + 1 + 1) 24 (Iv .u8 (NI (LB fun _ => 0))) := hW ▸ Blk.new' (by simp) _ (Iv .u8 (NI (LB fun _ => 0)))
  have hM : FM w k b W := ⟨K0, K1, K2, B0⟩
  clear hW B0 K0 K1 K2
  have lE := encL_length k b
  obtain ⟨E, hE⟩ : ∃ E, E = encL boxL k b := ⟨_, rfl⟩
  rw [← hE] at lE
  have HE := Lib.hid hE
  clear hE
  refine wp_region_Z (S := FM w k b) 4 (by kernel_rfl) ?_
  replace hM := hM.drew
  generalize W.drew = V at hM ⊢
  have hS := hM
  refine wpAnyZ_takeL 0 rfl (by kernel_rfl) (by kernel_rfl) (by kernel_rfl) (by kernel_rfl) (by kernel_rfl) (fun _ _ _ h => h) ((show YieldsIf _ _ _ _ (Value.agg (Iv .u8 (NI k))) _ from yieldsIf_row_wanted rfl 24 _ rfl (w.heap.size) rfl 24 _ _ (fun _ h => h.k) Try.underlying24 rfl (info_bk _ lk))) hS ?_
  simp only [Act.put, List.setIfInBounds_toArray, List.set_cons_zero, List.set_cons_succ]
  refine wpAnyZ_takeL 2 rfl (by kernel_rfl) (by kernel_rfl) (by kernel_rfl) (by kernel_rfl) (by kernel_rfl) (fun _ _ _ h => h) ((show YieldsIf _ _ _ _ (Value.agg (Iv .u8 (NI b))) _ from yieldsIf_row_wanted rfl 24 _ rfl (w.heap.size + 1) rfl 24 _ _ (fun _ h => h.b) Try.underlying24 rfl (info_bk _ lb))) hS ?_
  simp only [Act.put, List.setIfInBounds_toArray, List.set_cons_zero, List.set_cons_succ]
  refine zstep 1 rfl rfl (by kernel_rfl) ?_
  unfold Oper.wp execOp
  go_simp
  refine (new_any k lk bk _).mono ?_
  rintro _ w9 ⟨g, rfl, hg, hC, b9⟩
  replace hM := hM.below b9
  clear hS b9
  refine ⟨hM, ?_⟩
  have hS := hM
  have C := Lib.hid (ciph_any g k b lk bk lb bb w9 hC)
  rw [← HE.out] at C
  clear hC
  refine zstep 3 rfl rfl (by kernel_rfl) ?_
  unfold Oper.wp execOp
  go_simp
  refine C.out.mono ?_
  rintro _ w8 ⟨rfl, b9⟩
  replace hM := hM.below b9
  clear hS b9 C
  refine ⟨hM, ?_⟩
  have hS := hM
  refine zstep 4 rfl rfl (by kernel_rfl) ?_
  refine wp_store_row 24 _ _ rfl (w.heap.size + 1 + 1) (Iv .u8 (NI E)) rfl rfl 24 _ hM.r (info_bk _ lE) (size_b lz lE) (Iv_one _ _) ?_
  refine ⟨fun e => Bool.noConfusion ((e.symm.trans (show _ = true from rfl) : false = true)), ?_⟩
  refine wpAnyZ_done (by kernel_rfl) ?_ _
  refine aK _ _ ?_
  clear aK hS
  have RR := Blk.row hM.r (Iv .u8 (NI E))
  have BB := below_setRow hM.bel (g := w.heap.size + 1 + 1) (by omega) (Iv .u8 (NI E))
  clear hM
  go_wp2
  exact bodyPost_ret (results_cell_row rfl _ _ _ 24 _ (0, 0) _ rfl RR Try.underlying24 rfl (info_bk _ lE)) rfl ⟨by rw [HE.out], BB⟩
theorem enc_c : EncC := fun k b E lk lb bk bb hE W => hE ▸ enc_any k b lk bk lb bb W
/-- A Cipher that New made of k lies at p, in the blocks from lo to hi. -/
def RC (lo hi : Nat) (w : World) (p : Option Addr) (k : List Nat) : Prop := ∃ g, p = some ⟨g, 0, none⟩ ∧ lo ≤ g ∧ g < hi ∧ CI w g (KM boxL k 11) boxL
theorem ciph_c : CipherC RC where
  new := fun k lk bk W => (new_any k lk bk W).mono fun e w' ⟨g, he, hg, hC, b⟩ => ⟨some ⟨g, 0, none⟩, he, ⟨g, rfl, hg, hC.lt, hC⟩, b⟩
  enc := fun lo hi p k b E lk lb bk bb hE W hhi ⟨g, hp, _, _, hC⟩ => hp ▸ hE ▸ ciph_any g k b lk bk lb bb W hC
  stays := fun ⟨g, hp, h1, h2, hC⟩ hs => ⟨g, hp, h1, h2, hC.of_block (hs g h1 h2)⟩
  nil := fun b lb bb W => nil_any b lb bb W
end Go.Proofs.Ytnkjelamadpllaa
