/- The reference's Seal: its contract (printed by gengf.py). -/
import Derived.Test.YtpihgljdbpnehaaDoorGe
import Derived.Test.YtpihgljdbpnehaaDoorPa0Pc
import Derived.Test.YtpihgljdbpnehaaDoorLq0Nb
namespace Go.Proofs.YtpihgljdbpnehaaDoor
open Go.RowKit
theorem L12_of (l : List Nat) (h : l.length = 12) : L12 (nF l) = l := by
 refine ext0 (by rw [L12_length, h]) fun t ht => ?_
 rw [L12_length] at ht
 simp [L12, nF, List.getD_eq_getElem?_getD, List.getElem?_map, List.getElem?_range ht]
theorem info_12 (l : List Nat) (h : l.length = 12) : (Tryd.prog.info? 28).map (·.size) = some (Iv .u8 (NI l)).size := by
 rw [Iv_size, NI_length, h]
 kernel_rfl
theorem rcounter_l (l : List Nat) (h : l.length = 12) (bl : ∀ x ∈ l, x < 256) (n : Nat) (hn : n < 65536) (w : World) :
  Calls Tryd.prog 51 #[.agg (Iv .u8 (NI l)), .int .i64 (n : Int)] w fun e w' => e = .returned (.agg (Iv .u8 (NI (LB (counterF (nF l) n))))) ∧ Below w.heap.size w w' := by
 have := rcounter_any (nF l) (fun t => getD_lt bl t) n hn w
 rwa [L12_of l h] at this
/-- What stands in Seal: key, nonce. -/
structure SK (w0 : World) (K NN : List Nat) (w : World) : Prop where
 k : Blk w w0.heap.size 26 (Iv .u8 (NI K))
 n : Blk w (w0.heap.size + 1) 28 (Iv .u8 (NI NN))
 bel : Below w0.heap.size w0 w
section
variable {w0 w w1 : World} {K NN : List Nat}
theorem SK.drew (h : SK w0 K NN w) : SK w0 K NN w.drew := ⟨h.k.drew, h.n.drew, below_drew h.bel⟩
theorem SK.below (h : SK w0 K NN w) (b : Below w.heap.size w w1) : SK w0 K NN w1 := ⟨Blk.below' h.k b, Blk.below' h.n b, h.bel.trans (b.mono h.bel.size)⟩
theorem SK.under {B : Nat} (h : SK w0 K NN w) (b : Below B w w1) (hB : w0.heap.size + 2 ≤ B) : SK w0 K NN w1 := ⟨h.k.below b (by omega), h.n.below b (by omega), h.bel.trans (b.mono (by omega))⟩
theorem SK.row (h : SK w0 K NN w) {g : Nat} (hg : w0.heap.size + 2 ≤ g) (cs : Array Value) : SK w0 K NN (w.setRow g cs) := ⟨h.k.rowFar (by omega) _, h.n.rowFar (by omega) _, below_setRow h.bel (by omega) _⟩
end
theorem tag_get (k nonce beside ct : List Nat) (t : Nat) (h : t < 16) : (tagL k nonce beside ct).getD t 0 = tagY k beside ct t ^^^ (ecL k nonce 1).getD t 0 := LB_get _ _ h
theorem lensL_def (n m : Nat) : bitsL n ++ bitsL m = lensL n m := rfl
/-- One byte built into a slice. -/
theorem run_build_one (w : World) (x : Int) : (Instr.buildSlice 24 1 #[(0, .int .u8 x)]).run Tryd.prog w = .ok (.slice (some ⟨w.heap.size, 0, none⟩) 1 1) (w.alloc (.cells #[.int .u8 x] 5)) := by
 have h : (Instr.buildSlice 24 1 #[(0, .int .u8 x)]).run Tryd.prog w = .ok (.slice (some ⟨w.heap.size, 0, none⟩) 1 1) (w.alloc (.cells #[.int .u8 x] 5)) := by go_simp
 exact h
theorem build_one {o : Oper} {a : Act} {w : World} {K : Act → World → Prop} {Q : Exit → Act → World → Prop} (x : Operand) (d : Tmp) (ho : o.op = .buildSlice 24 1 #[(0, x)]) (hd : o.dst = some d) (n : Nat) (hx : a.eval x = .int .u8 (n : Int))
  (h : K (a.put (some d) (.slice (some ⟨w.heap.size, 0, none⟩) 1 1)) (w.alloc (.cells #[.int .u8 (n : Int)] 5))) : o.wp Tryd.prog a w K Q := by
 unfold Oper.wp execOp
 simp only [ho, Sem.run_bind, List.map_toArray, List.map_cons, List.map_nil, hx, run_build_one, Result.andThen_ok, Sem.run_pure]
 show K (a.put o.dst _) _
 rw [hd]
 exact h
/-- What stands in Seal from the sums on. -/
structure SQ (w0 : World) (K NN : List Nat) (gh gy : Nat) (h y : Nat → Nat) (ov : Value) (X : List Nat) (w : World) : Prop where
 s : SK w0 K NN w
 h : Blk w gh 26 (Iv .u8 (NI (LB h)))
 y : Blk w gy 26 (Iv .u8 (NI (LB y)))
 o : OwL (w0.heap.size + 3) w ov X
theorem SQ.below {w0 w w1 : World} {K NN X : List Nat} {gh gy : Nat} {h y : Nat → Nat} {ov : Value} (H : SQ w0 K NN gh gy h y ov X w) (b : Below w.heap.size w w1) : SQ w0 K NN gh gy h y ov X w1 := ⟨H.s.below b, Blk.below' H.h b, Blk.below' H.y b, H.o.below b⟩
theorem SQ.drew {w0 w : World} {K NN X : List Nat} {gh gy : Nat} {h y : Nat → Nat} {ov : Value} (H : SQ w0 K NN gh gy h y ov X w) : SQ w0 K NN gh gy h y ov X w.drew := H.below (below_drew (Below.refl _ _))
theorem bitsL_get (n t : Nat) (h : t < 8) : (bitsL n).getD t 0 = n * 8 / 2 ^ (56 - 8 * t) % 256 := by
 simp [bitsL, List.getD_eq_getElem?_getD, List.getElem?_map, List.getElem?_range h]
def z16l : List Nat := LB fun _ => 0
theorem z16l_length : z16l.length = 16 := LB_length _
theorem z16l_bytes : ∀ x ∈ z16l, x < 256 := LB_bytes' fun _ => by decide
/-- The counter block that stands before byte j. -/
def sF (K NN : List Nat) (j : Nat) : List Nat := if j = 0 then z16l else ecL K NN ((j - 1) / 16 + 2)
theorem sF_length (K NN : List Nat) (j : Nat) : (sF K NN j).length = 16 := by
 unfold sF
 split
 · exact z16l_length
 · exact ecL_length _ _ _
theorem sF_next (K NN : List Nat) (j : Nat) : sF K NN (j + 1) = ecL K NN (j / 16 + 2) := by
 unfold sF
 rw [if_neg (by omega), Nat.add_sub_cancel]
theorem sF_same (K NN : List Nat) (j : Nat) (h : ¬ j % 16 = 0) : sF K NN j = ecL K NN (j / 16 + 2) := by
 unfold sF
 rw [if_neg (by omega), show (j - 1) / 16 = j / 16 by omega]
theorem ecL_is (k nonce : List Nat) (n : Nat) : encL boxL k (LB (counterF (nF nonce) n)) = ecL k nonce n := rfl
theorem size_16 {a b : List Nat} (ha : a.length = 16) (hb : b.length = 16) : (Iv .u8 (NI a)).size = (Iv .u8 (NI b)).size := by rw [Iv_size, Iv_size, NI_length, NI_length, ha, hb]
theorem hK_is (K : List Nat) : encL boxL K z16l = LB (hK K) := (LB_of _ (blockF_length _ _ _ _)).symm
theorem rhash_l (y h y1 : Nat → Nat) (hy : ∀ i, y i < 256) (hh : ∀ i, h i < 256) (l : List Nat) (bl : ∀ x ∈ l, x < 256) (e1 : y1 = hashL y h l) (n : Nat) (hn : n = l.length) (ll : n ≤ 1000000) (p : Option Addr) (c : Nat) (w : World) (hs : SB w (.slice p n c) l) :
  Calls Tryd.prog 52 #[.agg (Iv .u8 (NI (LB y))), .agg (Iv .u8 (NI (LB h))), .slice p n c] w fun e w' => e = .returned (.agg (Iv .u8 (NI (LB y1)))) ∧ Below w.heap.size w w' := by
 rw [e1]
 unfold hashL
 have h1 := rhash_f y h hy hh l bl n hn ll p c w hs
 rwa [hn] at h1 ⊢
/-- One byte appended: what else stands. -/
theorem append_far (B : Nat) (w : World) (ty : TypeId) (v : Value) (l : List Nat) (x : Nat) (O : OwL B w v l) (hl : l.length ≤ 10000) (hB : B ≤ w.heap.size) :
  ∃ v' w', (Builtin.append_ #[24, 24] ty #[v, .slice (some ⟨w.heap.size, 0, none⟩) 1 1]).run Tryd.prog (w.alloc (.cells #[.int .u8 ((x : Nat) : Int)] 5)) = .ok v' w' ∧ OwL B w' v' (l ++ [x]) ∧ Below B w w' ∧
   (∀ g, g < w.heap.size → v.ownBlock ≠ some g → w'.heap[g]? = w.heap[g]? ∧ v'.ownBlock ≠ some g) := by
 have b7 : Below w.heap.size w (w.alloc (.cells #[.int .u8 ((x : Nat) : Int)] 5)) := (Below.refl _ _).alloc (Nat.le_refl _) _
 have hB7 : B ≤ (w.alloc (.cells #[.int .u8 ((x : Nat) : Int)] 5)).heap.size := Nat.le_trans hB b7.size
 obtain ⟨v8, w8, r8, O8, g8, h8⟩ := append_ba B _ ty v l [x] (O.below b7) w.heap.size 0 1 (byte_row w x) (by simp; omega) hB7
 refine ⟨v8, w8, r8, O8, below_grown' (b7.mono hB) g8 (fun j hj => ((O.below b7).lt j hj).1) hB7, fun g hg hn => ⟨(g8.block g (Nat.lt_of_lt_of_le hg b7.size) (fun e => hn e.symm)).trans (b7.block g hg), ?_⟩⟩
 rcases h8 with h8 | h8
 · rw [h8]; exact hn
 ·
  rw [h8]
  intro e
  have := Option.some.inj e
  have := b7.size
  omega
theorem take_next (l : List Nat) (j x : Nat) (h : j < l.length) (hx : l.getD j 0 = x) : l.take (j + 1) = l.take j ++ [x] := by
 rw [List.take_add_one, List.getElem?_eq_getElem h, ← hx]
 simp [h]
theorem cell_of_list {w : World} {g : Nat} {t : TypeId} {l : List Nat} (h : Blk w g t (Iv .u8 (NI l))) (i : Nat) (hi : i < l.length) : w.cell? ⟨g, i, none⟩ = some (.int .u8 ((l.getD i 0 : Nat) : Int)) := by
 rw [h.cell, NI_get _ _ hi]
 simp [hi]
theorem SB.cellAt {w : World} {g o n c : Nat} {l : List Nat} (h : SB w (.slice (some ⟨g, o, none⟩) n c) l) (i : Nat) (hi : i < n) : w.cell? ⟨g, o + i, none⟩ = some (.int .u8 ((l.getD i 0 : Nat) : Int)) := by
 have hl := h.len
 rcases h.at_ with h0 | ⟨g', o', e, hb⟩
 · omega
 ·
  simp only [Option.some.injEq, Addr.mk.injEq, and_true] at e
  obtain ⟨rfl, rfl⟩ := e
  exact hb.at_ i (by omega)
set_option maxHeartbeats 8000000 in
set_option maxRecDepth 100000 in
theorem rseal_f (K NN D b : List Nat) (lK : K.length = 16) (lN : NN.length = 12) (bK : ∀ x ∈ K, x < 256) (bN : ∀ x ∈ NN, x < 256) (bD : ∀ x ∈ D, x < 256) (bb : ∀ x ∈ b, x < 256)
  (xv : Value) (pd pb : Option Addr) (nd nb cd cb : Nat) (ld : nd ≤ 1000) (lb : nb ≤ 1000) (w : World) (hx : SB w xv boxL) (hd : SB w (.slice pd nd cd) D) (hb : SB w (.slice pb nb cb) b) :
  Calls Tryd.prog 35 #[xv, .agg (Iv .u8 (NI K)), .agg (Iv .u8 (NI NN)), .slice pd nd cd, .slice pb nb cb] w fun e w' => ∃ v, e = .returned v ∧ OwL w.heap.size w' v (sealL K NN D b) ∧ Below w.heap.size w w' := by
 have eD := hd.len.1
 have eb := hb.len.1
 obtain ⟨X, hX⟩ : ∃ X, X = xorS K NN b := ⟨_, rfl⟩
 have lX : X.length = nb := by rw [hX, xorS_length, eb]
 have gX : ∀ j, j < nb → X.getD j 0 = b.getD j 0 ^^^ (ecL K NN (j / 16 + 2)).getD (j % 16) 0 := fun j hj => by
  rw [hX, xorS_get _ _ _ _ (by omega)]
  rfl
 have HX := Lib.hid hX
 have GX := Lib.hid gX
 have ED := Lib.hid eD
 have EB := Lib.hid eb
 clear hX gX eD eb
 go_enter Tryd.func35, Tryd.ntmps35
 go_upto_region 4 with fail
 generalize hW : World.alloc (World.alloc (World.alloc w _) _) _ = W
 have B0 : Below w.heap.size w W := hW ▸ (((Below.refl w.heap.size w).alloc (Nat.le_refl _) _).alloc (by simp) _).alloc (by simp; omega) _
 have K0 : Blk W w.heap.size 26 (Iv .u8 (NI K)) := hW ▸ ((Blk.new w _ _).alloc _).alloc _
 have N0 : Blk W (w.heap.size + 1) 28 (Iv .u8 (NI NN)) := hW ▸ (Blk.new' (by simp) _ _).alloc _
 have s0 : Blk W (w.heap.size + 1 + 1) 26 (Iv .u8 (NI (sF K NN 0))) := hW ▸ Blk.new' (by simp) _ (Iv .u8 (NI z16l))
 have szW : w.heap.size + 3 ≤ W.heap.size := by rw [← hW]; simp
 have hM : SK w K NN W := ⟨K0, N0, B0⟩
 clear hW B0 K0 N0
 go_loopw [11, 13] (fun ov i wr => ∃ j : Nat, j ≤ nb ∧ i = .int .i64 (j : Int) ∧ SK w K NN wr ∧ Blk wr (w.heap.size + 1 + 1) 26 (Iv .u8 (NI (sF K NN j))) ∧ OwL (w.heap.size + 3) wr ov (X.take j) ∧ w.heap.size + 3 ≤ wr.heap.size) (fun _ i _ => (nb - intOf i).toNat)
 case atStart => exact ⟨0, by omega, rfl, hM, s0, OwL.nil _ _, szW⟩
 case round =>
  clear hM s0 szW
  obtain ⟨j, hj, rfl, hM, s0, O0, szW⟩ := hrel
  by_cases hjn : j = nb
  ·
   rw [hjn] at O0 s0 ⊢
   rw [List.take_of_length_le (Nat.le_of_eq lX)] at O0
   clear hjn hj
   have lh : ¬ (nb : Int) < (nb : Int) := by omega
   go_upto_region 9 with fail
   rename_i aK
   obtain ⟨po, co, hov⟩ := O0.shape
   rw [lX] at hov
   subst hov
   have lhk := hK_lt bK
   have CH := Lib.hid (fun V hx => rencrypt_any V xv hx K z16l lK z16l_length bK z16l_bytes)
   have HKI := Lib.hid (hK_is K)
   refine wp_region_seq ?_
   refine wpSeq_yield (S := fun w' => w' = wr) (yieldsIf_move rfl _ rfl xv rfl) rfl ?_
   refine wpSeq_yield (S := fun w' => w' = wr) (show YieldsIf _ _ _ _ (Value.agg (Iv .u8 (NI K))) _ from yieldsIf_row_wanted rfl 26 _ rfl (w.heap.size) rfl 26 _ _ (fun w' h => h ▸ hM.k) Tryd.underlying26 rfl (info_n _ lK)) rfl ?_
   refine wpSeq_yield (S := fun w' => w' = wr) (v := .agg (Iv .u8 (NI z16l))) (Or.inl ⟨rfl, fun w' _ => by
    simp only [execOp]
    go_simp
    rfl⟩) rfl ?_
   refine wpSeq_wp rfl ?_
   unfold Oper.wp execOp
   go_simp
   refine (CH.out _ (hx.below hM.bel)).mono ?_
   rintro _ w9 ⟨rfl, b9⟩
   rw [HKI.out]
   replace hM := hM.below b9
   replace O0 := O0.below b9
   replace szW := Nat.le_trans szW b9.size
   clear b9 CH HKI s0
   go_simp
   refine wpSeq_allocQ 26 (Iv .u8 (NI z16l)) rfl (fun W => by go_simp; rfl) ?_
   intro gh W1 R1 b1 m1
   refine wpSeq_store_row rfl 26 _ _ rfl gh (Iv .u8 (NI (LB (hK K)))) rfl rfl 26 _ R1 (info_n _ (LB_length _)) (size_16 z16l_length (LB_length _)) (Iv_one _ _) ?_
   refine wpSeq_nil ?_
   refine aK _ _ ?_
   clear aK
   have H1 := R1.row (Iv .u8 (NI (LB (hK K))))
   have hM1 := (hM.below b1).row (g := gh) (by omega) (Iv .u8 (NI (LB (hK K))))
   have O1 : OwL (w.heap.size + 3) (World.setRow W1 gh (Iv .u8 (NI (LB (hK K))))) (.slice po nb co) X := (O0.below b1).of_block fun g hg => by have := (O0.lt g hg).2; exact setRow_other _ _ _ _ (by omega)
   have szV : w.heap.size + 3 ≤ gh := by omega
   have ltV : gh < (World.setRow W1 gh (Iv .u8 (NI (LB (hK K))))).heap.size := H1.lt
   have nO : ∀ g, (Value.slice po nb co).ownBlock = some g → g ≠ gh := fun g hg => by have := (O0.lt g hg).2; omega
   have nO' : ∀ g, (Value.slice po nb co).ownBlock = some g → g < gh := fun g hg => by have := (O0.lt g hg).2; omega
   clear hM O0 R1 b1 m1 szW
   generalize World.setRow W1 gh _ = U at *
   go_upto_region 10 with fail
   rename_i aK
   obtain ⟨y1, hy1⟩ : ∃ y, y = hashL (fun _ => 0) (hK K) D := ⟨_, rfl⟩
   obtain ⟨y2, hy2⟩ : ∃ y, y = hashL y1 (hK K) X := ⟨_, rfl⟩
   have ly0 : ∀ i : Nat, (fun _ => 0 : Nat → Nat) i < 256 := fun _ => Nat.zero_lt_succ _
   have ly1 : ∀ i, y1 i < 256 := fun i => hy1 ▸ hashL_lt ly0 lhk i
   have ly2 : ∀ i, y2 i < 256 := fun i => hy2 ▸ hashL_lt ly1 lhk i
   have bX : ∀ x ∈ X, x < 256 := by rw [HX.out]; exact xorS_bytes bK bN bb (by have := EB.out; omega)
   have H9 := Lib.hid (fun W (hs : SB W (.slice pd nd cd) D) => rhash_l (fun _ => 0) (hK K) y1 ly0 lhk D bD hy1 nd ED.out (by omega) pd cd W hs)
   have H8 := Lib.hid (fun W (hs : SB W (.slice po nb co) X) => rhash_l y1 (hK K) y2 ly1 lhk X bX hy2 nb lX.symm (by omega) po co W hs)
   have HY1 := Lib.hid hy1
   have HY2 := Lib.hid hy2
   clear hy1 hy2
   refine wp_region_Z (S := (fun w' => SK w K NN w' ∧ Blk w' gh 26 (Iv .u8 (NI (LB (hK K)))) ∧ OwL (w.heap.size + 3) w' (.slice po nb co) X)) 8 (by kernel_rfl) ?_
   replace hM1 := hM1.drew
   replace H1 := H1.drew
   replace O1 : OwL (w.heap.size + 3) (World.drew U) _ _ := O1.below (below_drew (Below.refl _ _))
   replace ltV : gh < (World.drew U).heap.size := ltV
   generalize World.drew U = V at hM1 H1 O1 ltV ⊢
   have hS : (fun w' => SK w K NN w' ∧ Blk w' gh 26 (Iv .u8 (NI (LB (hK K)))) ∧ OwL (w.heap.size + 3) w' (.slice po nb co) X) V := ⟨hM1, H1, O1⟩
   refine wpAnyZ_takeL 0 (v := (.agg (Iv .u8 (NI (LB fun _ => 0))))) rfl (by kernel_rfl) (by kernel_rfl) (by kernel_rfl) (by kernel_rfl) (by kernel_rfl) (fun _ _ _ h => h) (Or.inl ⟨by rfl, ?_⟩) hS ?_
   ·
    intro w' hw'
    go_simp
    rfl
   simp only [Act.put, List.setIfInBounds_toArray, List.set_cons_zero, List.set_cons_succ]
   refine wpAnyZ_takeL 1 rfl (by kernel_rfl) (by kernel_rfl) (by kernel_rfl) (by kernel_rfl) (by kernel_rfl) (fun _ _ _ h => h) ((show YieldsIf _ _ _ _ (Value.agg (Iv .u8 (NI (LB (hK K))))) _ from yieldsIf_row_wanted rfl 26 _ rfl (gh) rfl 26 _ _ (fun _ h => h.2.1) Tryd.underlying26 rfl (info_n _ (LB_length _)))) hS ?_
   simp only [Act.put, List.setIfInBounds_toArray, List.set_cons_zero, List.set_cons_succ]
   refine wpAnyZ_takeL 2 rfl (by kernel_rfl) (by kernel_rfl) (by kernel_rfl) (by kernel_rfl) (by kernel_rfl) (fun _ _ _ h => h) (yieldsIf_move rfl _ rfl (.slice pd nd cd) rfl) hS ?_
   simp only [Act.put, List.setIfInBounds_toArray, List.set_cons_zero, List.set_cons_succ]
   refine wpAnyZ_takeL 4 rfl (by kernel_rfl) (by kernel_rfl) (by kernel_rfl) (by kernel_rfl) (by kernel_rfl) (fun _ _ _ h => h) ((show YieldsIf _ _ _ _ (Value.agg (Iv .u8 (NI (LB (hK K))))) _ from yieldsIf_row_wanted rfl 26 _ rfl (gh) rfl 26 _ _ (fun _ h => h.2.1) Tryd.underlying26 rfl (info_n _ (LB_length _)))) hS ?_
   simp only [Act.put, List.setIfInBounds_toArray, List.set_cons_zero, List.set_cons_succ]
   refine wpAnyZ_takeL 5 rfl (by kernel_rfl) (by kernel_rfl) (by kernel_rfl) (by kernel_rfl) (by kernel_rfl) (fun _ _ _ h => h) (yieldsIf_move rfl _ rfl (.slice po nb co) rfl) hS ?_
   simp only [Act.put, List.setIfInBounds_toArray, List.set_cons_zero, List.set_cons_succ]
   refine wpAnyZ_jobsL [(⟨3, 57⟩, .is (.agg (Iv .u8 (NI (LB y1))))), (⟨6, 60⟩, .is (.agg (Iv .u8 (NI (LB y2))))), (⟨7, 15⟩, .rel (fun v w' => ∃ g, v = .pointer (some ⟨g, 0, none⟩) ∧ Blk w' g 26 (Iv .u8 (NI z16l))))] [] 1 _ _ _ (by kernel_rfl) (fun _ _ _ _ _ h => h) ?_ (fun _ _ _ _ _ h => h) (fun _ _ h hb => ⟨h.1.below hb, Blk.below' h.2.1 hb, h.2.2.below hb⟩) hS ?_ ?_ ?_
   · exact fun _ _ h => by cases h
   ·
    intro j hj
    simp only [List.map_cons, List.map_nil, List.mem_cons, List.not_mem_nil, or_false] at hj
    rcases hj with rfl | rfl | rfl
    · exact fun _ _ _ h _ => h
    · exact fun _ _ _ h _ => h
    ·
     intro v w1 w2 h hb
     obtain ⟨g, e, H⟩ : ∃ g, v = .pointer (some ⟨g, 0, none⟩) ∧ Blk w1 g 26 (Iv .u8 (NI z16l)) := h
     exact ⟨g, e, Blk.below' H hb⟩
   ·
    intro j hj
    simp only [List.map_cons, List.map_nil, List.mem_cons, List.not_mem_nil, or_false] at hj
    rcases hj with rfl | rfl | rfl
    ·
     refine job_frame [] (by kernel_rfl) ?_
     show JobAt _ _ _ _ _ _ _
     simp only [putAll, List.foldr_nil]
     intro W K' hS' hK'
     unfold wpOp
     go_simp
     left
     refine (H9.out _ (hd.below hS'.1.bel)).mono ?_
     rintro e v ⟨rfl, b⟩
     exact hK' _ _ rfl b (fun g hg => ((block_agg _) g hg).elim)
    ·
     refine job_frame [⟨3, 57⟩] (by kernel_rfl) ?_
     show JobAt _ _ _ _ (Act.put _ (some 57) (.agg (Iv .u8 (NI (LB y1))))) _ _
     simp only [Act.put]
     intro W K' hS' hK'
     unfold wpOp
     go_simp
     left
     refine (H8.out _ hS'.2.2.sb).mono ?_
     rintro e v ⟨rfl, b⟩
     exact hK' _ _ rfl b (fun g hg => ((block_agg _) g hg).elim)
    ·
     refine job_frame [] (by kernel_rfl) ?_
     show JobAt _ _ _ _ _ _ _
     exact job_alloc 26 (Iv .u8 (NI z16l)) _ _ rfl rfl rfl (fun W => by go_simp; rfl)
   ·
    intro f W hS2 hB1 hR hF hA
    have e3 : f 3 = (.agg (Iv .u8 (NI (LB y1)))) := hR ⟨3, 57⟩ (by simp)
    have e6 : f 6 = (.agg (Iv .u8 (NI (LB y2)))) := hR ⟨6, 60⟩ (by simp)
    obtain ⟨g7, e7, A7⟩ : ∃ g, f 7 = .pointer (some ⟨g, 0, none⟩) ∧ Blk W g 26 (Iv .u8 (NI z16l)) := hR ⟨7, 15⟩ (by simp)
    have n7 : _ ≤ g7 := (hF ⟨7, 15⟩ (by simp) g7 (by show blockOf (f 7) = _; rw [e7]; rfl)).1
    clear hA hF hR
    simp only [setAll, putAll, List.map_cons, List.map_nil, List.foldr_cons, List.foldr_nil, Act.put, List.setIfInBounds_toArray, List.set_cons_zero, List.set_cons_succ, e3, e6, e7]
    clear e3 e6 e7
    refine zstep 8 rfl rfl (by kernel_rfl) ?_
    refine wp_store_row 26 _ _ rfl g7 (Iv .u8 (NI (LB y2))) rfl rfl 26 _ A7 (info_n _ (LB_length _)) (size_16 z16l_length (LB_length _)) (Iv_one _ _) ?_
    refine ⟨fun e => Bool.noConfusion ((e.symm.trans (show _ = true from rfl) : false = true)), ?_⟩
    refine wpAnyZ_done (by kernel_rfl) ?_ _
    refine aK _ _ ?_
    clear aK hS H9 H8 hM1 H1 O1
    have ngh : gh ≠ g7 := by omega
    have hQ : SQ w K NN gh g7 (hK K) y2 (.slice po nb co) X (World.setRow W g7 (Iv .u8 (NI (LB y2)))) :=
     ⟨hS2.1.row (by omega) _, hS2.2.1.rowFar ngh _, A7.row _, hS2.2.2.of_block fun g hg => by have := (hS2.2.2.lt g hg).2; have := hB1.size; exact setRow_other _ _ _ _ (by have := nO' g hg; omega)⟩
    have lt7 : g7 < (World.setRow W g7 (Iv .u8 (NI (LB y2)))).heap.size := hQ.y.lt
    have nO2 : ∀ g, (Value.slice po nb co).ownBlock = some g → g ≠ gh ∧ g ≠ g7 := fun g hg => ⟨nO g hg, by have := nO' g hg; omega⟩
    have nO4 : ∀ g, (Value.slice po nb co).ownBlock = some g → g < g7 := fun g hg => by have := nO' g hg; omega
    clear hS2 hB1 A7 nO nO'
    generalize World.setRow W g7 _ = U2 at *
    go_upto_region 13 with fail
    go_loopw [16, 17] (fun lv i wr => ∃ t : Nat, t ≤ 8 ∧ i = .int .i64 (t : Int) ∧ OwL U2.heap.size wr lv ((bitsL nd).take t) ∧ Below U2.heap.size U2 wr) (fun _ i _ => (8 - intOf i).toNat)
    case atStart => exact ⟨0, by omega, rfl, OwL.nil _ _, Below.refl _ _⟩
    case round =>
     obtain ⟨t, ht, rfl, OL, bL⟩ := hrel
     by_cases h8 : t = 8
     ·
      subst h8
      rw [show ((8 : Nat) : Int) = 8 from rfl]
      rw [List.take_of_length_le (Nat.le_of_eq (bitsL_length _))] at OL
      go_upto_region 17 with fail
      go_loopw [16, 18] (fun lv i wr => ∃ t : Nat, t ≤ 8 ∧ i = .int .i64 (t : Int) ∧ OwL U2.heap.size wr lv (bitsL nd ++ (bitsL nb).take t) ∧ Below U2.heap.size U2 wr) (fun _ i _ => (8 - intOf i).toNat)
      case atStart => exact ⟨0, by omega, rfl, by rw [List.take_zero, List.append_nil]; exact OL, bL⟩
      case round =>
       obtain ⟨t, ht, rfl, OL, bL⟩ := hrel
       by_cases h8 : t = 8
       ·
        subst h8
        rw [show ((8 : Nat) : Int) = 8 from rfl]
        rw [List.take_of_length_le (Nat.le_of_eq (bitsL_length _))] at OL
        go_upto_region 20 with fail
        rename_i aK
        rw [lensL_def] at OL
        have hQ2 := hQ.below bL
        obtain ⟨pl, lc, hlv⟩ := OL.shape
        rw [lensL_length] at hlv
        subst hlv
        have sbL := OL.sb
        obtain ⟨y3, hy3⟩ : ∃ y, y = hashL y2 (hK K) (lensL nd nb) := ⟨_, rfl⟩
        have ly3 : ∀ i, y3 i < 256 := fun i => hy3 ▸ hashL_lt ly2 lhk i
        have H7 := Lib.hid (fun W (hs : SB W (.slice pl 16 lc) (lensL nd nb)) => rhash_l y2 (hK K) y3 ly2 lhk (lensL nd nb) (lensL_bytes _ _) hy3 16 (lensL_length _ _).symm (by omega) pl lc W hs)
        have HY3 := Lib.hid hy3
        have lt8 := Nat.lt_of_lt_of_le lt7 bL.size
        clear hy3 OL bL hQ
        refine wp_region_seq ?_
        refine wpSeq_yield (S := fun w' => w' = wr) (show YieldsIf _ _ _ _ (Value.agg (Iv .u8 (NI (LB y2)))) _ from yieldsIf_row_wanted rfl 26 _ rfl g7 rfl 26 _ _ (fun w' h => h ▸ hQ2.y) Tryd.underlying26 rfl (info_n _ (LB_length _))) rfl ?_
        refine wpSeq_yield (S := fun w' => w' = wr) (show YieldsIf _ _ _ _ (Value.agg (Iv .u8 (NI (LB (hK K))))) _ from yieldsIf_row_wanted rfl 26 _ rfl gh rfl 26 _ _ (fun w' h => h ▸ hQ2.h) Tryd.underlying26 rfl (info_n _ (LB_length _))) rfl ?_
        refine wpSeq_yield (S := fun w' => w' = wr) (yieldsIf_move rfl _ rfl (.slice pl 16 lc) rfl) rfl ?_
        refine wpSeq_wp rfl ?_
        unfold Oper.wp execOp
        go_simp
        refine (H7.out _ sbL).mono ?_
        rintro _ w9 ⟨rfl, b9⟩
        replace hQ2 := hQ2.below b9
        replace lt8 := Nat.lt_of_lt_of_le lt8 b9.size
        clear b9 H7 sbL
        go_simp
        refine wpSeq_store_row rfl 26 _ _ rfl g7 (Iv .u8 (NI (LB y3))) rfl rfl 26 _ hQ2.y (info_n _ (LB_length _)) (size_16 (LB_length _) (LB_length _)) (Iv_one _ _) ?_
        refine wpSeq_nil ?_
        refine aK _ _ ?_
        clear aK
        have hQ3 : SQ w K NN gh g7 (hK K) y3 (.slice po nb co) X (World.setRow w9 g7 (Iv .u8 (NI (LB y3)))) :=
         ⟨hQ2.s.row (by omega) _, hQ2.h.rowFar ngh _, hQ2.y.row _, hQ2.o.of_block fun g hg => setRow_other _ _ _ _ (nO2 g hg).2⟩
        clear hQ2
        have lt6 := hQ3.y.lt
        generalize World.setRow w9 g7 _ = U3 at *
        go_upto_region 21 with fail
        rename_i aK
        have C1 := Lib.hid (rcounter_l NN lN bN 1 (by decide))
        have C2 := Lib.hid (fun V hx => rencrypt_any V xv hx K (LB (counterF (nF NN) 1)) lK (LB_length _) bK (LB_bytes' fun i => counterF_lt (fun t => getD_lt bN t) (by decide) i))
        have ES := Lib.hid (ecL_is K NN 1)
        have lE := ecL_length K NN 1
        have bE := ecL_bytes (n := 1) bK bN (by decide)
        rw [ES.out] at C2
        obtain ⟨E, hE⟩ : ∃ E, E = ecL K NN 1 := ⟨_, rfl⟩
        rw [← hE] at C2 lE bE
        have HE := Lib.hid hE
        clear hE ES
        refine wp_region_Z (S := fun w' => SQ w K NN gh g7 (hK K) y3 (.slice po nb co) X w') 6 (by kernel_rfl) ?_
        have hS := hQ3.drew
        replace lt6 : g7 < (World.drew U3).heap.size := lt6
        clear hQ3
        generalize World.drew U3 = V3 at hS lt6 ⊢
        refine wpAnyZ_takeL 0 rfl (by kernel_rfl) (by kernel_rfl) (by kernel_rfl) (by kernel_rfl) (by kernel_rfl) (fun _ _ _ h => h) (yieldsIf_move rfl _ rfl xv rfl) hS ?_
        simp only [Act.put, List.setIfInBounds_toArray, List.set_cons_zero, List.set_cons_succ]
        refine wpAnyZ_takeL 1 rfl (by kernel_rfl) (by kernel_rfl) (by kernel_rfl) (by kernel_rfl) (by kernel_rfl) (fun _ _ _ h => h) ((show YieldsIf _ _ _ _ (Value.agg (Iv .u8 (NI K))) _ from yieldsIf_row_wanted rfl 26 _ rfl (w.heap.size) rfl 26 _ _ (fun _ h => h.s.k) Tryd.underlying26 rfl (info_n _ lK))) hS ?_
        simp only [Act.put, List.setIfInBounds_toArray, List.set_cons_zero, List.set_cons_succ]
        refine wpAnyZ_takeL 2 rfl (by kernel_rfl) (by kernel_rfl) (by kernel_rfl) (by kernel_rfl) (by kernel_rfl) (fun _ _ _ h => h) ((show YieldsIf _ _ _ _ (Value.agg (Iv .u8 (NI NN))) _ from yieldsIf_row_wanted rfl 28 _ rfl (w.heap.size + 1) rfl 28 _ _ (fun _ h => h.s.n) Tryd.underlying28 rfl (info_12 _ lN))) hS ?_
        simp only [Act.put, List.setIfInBounds_toArray, List.set_cons_zero, List.set_cons_succ]
        refine wpAnyZ_jobsL [(⟨3, 100⟩, .is (.agg (Iv .u8 (NI (LB (counterF (nF NN) 1)))))), (⟨4, 101⟩, .is (.agg (Iv .u8 (NI E)))), (⟨5, 19⟩, .rel (fun v w' => ∃ g, v = .pointer (some ⟨g, 0, none⟩) ∧ Blk w' g 26 (Iv .u8 (NI z16l))))] [] 1 _ _ _ (by kernel_rfl) (fun _ _ _ _ _ h => h) ?_ (fun _ _ _ _ _ h => h) (fun _ _ h hb => h.below hb) hS ?_ ?_ ?_
        · exact fun _ _ h => by cases h
        ·
         intro j hj
         simp only [List.map_cons, List.map_nil, List.mem_cons, List.not_mem_nil, or_false] at hj
         rcases hj with rfl | rfl | rfl
         · exact fun _ _ _ h _ => h
         · exact fun _ _ _ h _ => h
         ·
          intro v w1 w2 h hb
          obtain ⟨g, e, H⟩ : ∃ g, v = .pointer (some ⟨g, 0, none⟩) ∧ Blk w1 g 26 (Iv .u8 (NI z16l)) := h
          exact ⟨g, e, Blk.below' H hb⟩
        ·
         intro j hj
         simp only [List.map_cons, List.map_nil, List.mem_cons, List.not_mem_nil, or_false] at hj
         rcases hj with rfl | rfl | rfl
         ·
          refine job_frame [] (by kernel_rfl) ?_
          show JobAt _ _ _ _ _ _ _
          simp only [putAll, List.foldr_nil]
          intro W K' hS' hK'
          unfold wpOp
          go_simp
          left
          refine (C1.out _).mono ?_
          rintro e v ⟨rfl, b⟩
          exact hK' _ _ rfl b (fun g hg => ((block_agg _) g hg).elim)
         ·
          refine job_frame [⟨3, 100⟩] (by kernel_rfl) ?_
          show JobAt _ _ _ _ (Act.put _ (some 100) (.agg (Iv .u8 (NI (LB (counterF (nF NN) 1)))))) _ _
          simp only [Act.put]
          intro W K' hS' hK'
          unfold wpOp
          go_simp
          left
          refine (C2.out _ (hx.below hS'.s.bel)).mono ?_
          rintro e v ⟨rfl, b⟩
          exact hK' _ _ rfl b (fun g hg => ((block_agg _) g hg).elim)
         ·
          refine job_frame [] (by kernel_rfl) ?_
          show JobAt _ _ _ _ _ _ _
          exact job_alloc 26 (Iv .u8 (NI z16l)) _ _ rfl rfl rfl (fun W => by go_simp; rfl)
        ·
         intro f W hS2 hB1 hR hF hA
         have e3 : f 3 = (.agg (Iv .u8 (NI (LB (counterF (nF NN) 1))))) := hR ⟨3, 100⟩ (by simp)
         have e4 : f 4 = (.agg (Iv .u8 (NI E))) := hR ⟨4, 101⟩ (by simp)
         obtain ⟨g5, e5, A5⟩ : ∃ g, f 5 = .pointer (some ⟨g, 0, none⟩) ∧ Blk W g 26 (Iv .u8 (NI z16l)) := hR ⟨5, 19⟩ (by simp)
         have n5 : _ ≤ g5 := (hF ⟨5, 19⟩ (by simp) g5 (by show blockOf (f 5) = _; rw [e5]; rfl)).1
         clear hA hF hR
         simp only [setAll, putAll, List.map_cons, List.map_nil, List.foldr_cons, List.foldr_nil, Act.put, List.setIfInBounds_toArray, List.set_cons_zero, List.set_cons_succ, e3, e4, e5]
         clear e3 e4 e5
         refine zstep 6 rfl rfl (by kernel_rfl) ?_
         refine wp_store_row 26 _ _ rfl g5 (Iv .u8 (NI E)) rfl rfl 26 _ A5 (info_n _ lE) (size_16 z16l_length lE) (Iv_one _ _) ?_
         refine ⟨fun e => Bool.noConfusion ((e.symm.trans (show _ = true from rfl) : false = true)), ?_⟩
         refine wpAnyZ_done (by kernel_rfl) ?_ _
         refine aK _ _ ?_
         clear aK hS C1 C2
         have ltW : g7 < W.heap.size := Nat.lt_of_lt_of_le lt6 hB1.size
         have Y5 := hS2.y.rowFar (k := g5) (by omega) (Iv .u8 (NI E))
         have E5 := A5.row (Iv .u8 (NI E))
         have s5 : w.heap.size + 3 ≤ g5 := by omega
         have O5 : OwL (w.heap.size + 3) (World.setRow W g5 (Iv .u8 (NI E))) (.slice po nb co) X := hS2.o.of_block fun g hg => setRow_other _ _ _ _ (by have := (nO2 g hg); have := nO4 g hg; omega)
         have B5 := below_setRow (hS2.s.bel) (g := g5) (by omega) (Iv .u8 (NI E))
         have q5 : ∀ g, (Value.slice po nb co).ownBlock = some g → g ≠ g7 ∧ g ≠ g5 := fun g hg => ⟨(nO2 g hg).2, by have := nO4 g hg; omega⟩
         have gls : g7 < (World.setRow W g5 (Iv .u8 (NI E))).heap.size := Y5.lt
         have g5l : g5 < (World.setRow W g5 (Iv .u8 (NI E))).heap.size := E5.lt
         clear hS2 hB1 A5 ltW lt6 nO2 nO4
         generalize World.setRow W g5 _ = U5 at *
         go_upto_region 23 with fail
         have TG : ∀ t, t < 16 → (tagL K NN D X).getD t 0 = y3 t ^^^ E.getD t 0 := fun t ht => by
          rw [tag_get _ _ _ _ _ ht, HE.out, HY3.out, HY2.out, HY1.out]
          unfold tagY
          rw [← ED.out, lX]
         have HTG := Lib.hid TG
         have lTG := tagL_length K NN D X
         have HTL := Lib.hid (show sealL K NN D b = X ++ tagL K NN D X by rw [HX.out]; rfl)
         clear TG HY1 HY2 HY3 HE
         generalize tagL K NN D X = T at *
         go_loopw [11, 20] (fun ov i wr => ∃ t : Nat, t ≤ 16 ∧ i = .int .i64 (t : Int) ∧ Blk wr g7 26 (Iv .u8 (NI (LB y3))) ∧ Blk wr g5 26 (Iv .u8 (NI E)) ∧ OwL (w.heap.size + 3) wr ov (X ++ T.take t) ∧ Below w.heap.size w wr ∧ ∀ g, ov.ownBlock = some g → g ≠ g7 ∧ g ≠ g5) (fun _ i _ => (16 - intOf i).toNat)
         case atStart => exact ⟨0, by omega, rfl, Y5, E5, by rw [List.take_zero, List.append_nil]; exact O5, B5, q5⟩
         case round =>
          clear Y5 E5 O5 B5 q5
          obtain ⟨t, ht, rfl, Y5, E5, O5, B5, q5⟩ := hrel
          by_cases h16 : t = 16
          ·
           subst h16
           rw [List.take_of_length_le (Nat.le_of_eq lTG), ← HTL.out] at O5
           rw [show ((16 : Nat) : Int) = 16 from rfl]
           have O6 := O5.mono (show w.heap.size ≤ w.heap.size + 3 by omega)
           clear O5 Y5 E5 q5 ly0 ly1 ly2 ly3 lhk bX bE hx hd hb bK bN bD bb lX lTG HTG
           go_wp2
           refine bodyPost_ret (results_tmp rfl _ _ _) ?_ ?_
           · rfl
           · exact ⟨_, rfl, O6, B5⟩
          ·
           have i1 : (t : Int) < 16 := by omega
           have i0 : (0 : Int) ≤ (t : Int) := by omega
           have t16 : t < 16 := by omega
           have GT := HTG.out t t16
           have x1 := u8_xor_nat _ _ (ly3 t) (getD_lt bE t)
           have HT := Lib.hid (take_next T t _ (by omega) GT)
           have cy := Lib.hid (fun w' (h : Blk w' g7 26 (Iv .u8 (NI (LB y3)))) => cell_of_list h t (by rw [LB_length]; exact t16))
           have ce := Lib.hid (fun w' (h : Blk w' g5 26 (Iv .u8 (NI E))) => cell_of_list h t (by omega))
           rw [LB_get _ _ t16] at cy
           obtain ⟨x, hxx⟩ : ∃ x, x = y3 t := ⟨_, rfl⟩
           obtain ⟨y, hyy⟩ : ∃ y, y = E.getD t 0 := ⟨_, rfl⟩
           rw [← hxx] at cy x1 HT
           rw [← hyy] at ce x1 HT
           clear GT hxx hyy h16
           generalize x ^^^ y = Z at *
           have lo9 : (X ++ T.take t).length ≤ 10000 := by rw [List.length_append, List.length_take]; omega
           obtain ⟨n9, hn9⟩ : ∃ n, n = (X ++ T.take t).length := ⟨_, rfl⟩
           obtain ⟨pq, cq, hov⟩ := O5.shape
           rw [← hn9] at hov
           subst hov
           clear hn9
           go_upto_region 25 with fail
           rename_i aK
           refine wp_region_Z (S := fun w' => Blk w' g7 26 (Iv .u8 (NI (LB y3))) ∧ Blk w' g5 26 (Iv .u8 (NI E))) 10 (by kernel_rfl) ?_
           replace Y5 := Y5.drew
           replace E5 := E5.drew
           replace B5 := below_drew B5
           replace O5 : OwL (w.heap.size + 3) (World.drew wr) _ _ := O5.below (below_drew (Below.refl _ _))
           have s9 : w.heap.size + 3 ≤ (World.drew wr).heap.size := by have := Y5.lt; omega
           generalize World.drew wr = V9 at Y5 E5 B5 O5 s9 ⊢
           have hS : Blk V9 g7 26 (Iv .u8 (NI (LB y3))) ∧ Blk V9 g5 26 (Iv .u8 (NI E)) := ⟨Y5, E5⟩
           refine wpAnyZ_takeL 0 rfl (by kernel_rfl) (by kernel_rfl) (by kernel_rfl) (by kernel_rfl) (by kernel_rfl) (fun _ _ _ h => h) (yieldsIf_move rfl _ rfl (.slice pq n9 cq) rfl) hS ?_
           simp only [Act.put, List.setIfInBounds_toArray, List.set_cons_zero, List.set_cons_succ]
           refine wpAnyZ_takeL 1 rfl (by kernel_rfl) (by kernel_rfl) (by kernel_rfl) (by kernel_rfl) (by kernel_rfl) (fun _ _ _ h => h) (yieldsIf_move rfl _ rfl (.int .i64 (t : Int)) rfl) hS ?_
           simp only [Act.put, List.setIfInBounds_toArray, List.set_cons_zero, List.set_cons_succ]
           refine wpAnyZ_takeL 2 (v := (.pointer (some ⟨g7, t, none⟩))) rfl (by kernel_rfl) (by kernel_rfl) (by kernel_rfl) (by kernel_rfl) (by kernel_rfl) (fun _ _ _ h => h) (Or.inl ⟨by rfl, ?_⟩) hS ?_
           ·
            intro w' hw'
            go_simp
           simp only [Act.put, List.setIfInBounds_toArray, List.set_cons_zero, List.set_cons_succ]
           refine wpAnyZ_takeL 3 (v := (.int .u8 (x : Int))) rfl (by kernel_rfl) (by kernel_rfl) (by kernel_rfl) (by kernel_rfl) (by kernel_rfl) (fun _ _ _ h => h) (Or.inl ⟨by rfl, ?_⟩) hS ?_
           ·
            intro w' hw'
            have c9 := cy.out w' hw'.1
            go_simp
           simp only [Act.put, List.setIfInBounds_toArray, List.set_cons_zero, List.set_cons_succ]
           refine wpAnyZ_takeL 4 rfl (by kernel_rfl) (by kernel_rfl) (by kernel_rfl) (by kernel_rfl) (by kernel_rfl) (fun _ _ _ h => h) (yieldsIf_move rfl _ rfl (.int .i64 (t : Int)) rfl) hS ?_
           simp only [Act.put, List.setIfInBounds_toArray, List.set_cons_zero, List.set_cons_succ]
           refine wpAnyZ_takeL 5 (v := (.pointer (some ⟨g5, t, none⟩))) rfl (by kernel_rfl) (by kernel_rfl) (by kernel_rfl) (by kernel_rfl) (by kernel_rfl) (fun _ _ _ h => h) (Or.inl ⟨by rfl, ?_⟩) hS ?_
           ·
            intro w' hw'
            go_simp
           simp only [Act.put, List.setIfInBounds_toArray, List.set_cons_zero, List.set_cons_succ]
           refine wpAnyZ_takeL 6 (v := (.int .u8 (y : Int))) rfl (by kernel_rfl) (by kernel_rfl) (by kernel_rfl) (by kernel_rfl) (by kernel_rfl) (fun _ _ _ h => h) (Or.inl ⟨by rfl, ?_⟩) hS ?_
           ·
            intro w' hw'
            have c9 := ce.out w' hw'.2
            go_simp
           simp only [Act.put, List.setIfInBounds_toArray, List.set_cons_zero, List.set_cons_succ]
           refine wpAnyZ_takeL 7 (v := (.int .u8 (Z : Int))) rfl (by kernel_rfl) (by kernel_rfl) (by kernel_rfl) (by kernel_rfl) (by kernel_rfl) (fun _ _ _ h => h) (Or.inl ⟨by rfl, ?_⟩) hS ?_
           ·
            intro w' hw'
            go_simp
           simp only [Act.put, List.setIfInBounds_toArray, List.set_cons_zero, List.set_cons_succ]
           obtain ⟨v8, w8, r8, O8, B8, F8⟩ := append_far (w.heap.size + 3) V9 24 _ _ Z O5 lo9 s9
           have f7 := F8 g7 Y5.lt (fun e => (q5 _ e).1 rfl)
           have f5 := F8 g5 E5.lt (fun e => (q5 _ e).2 rfl)
           refine zstep 8 rfl rfl (by kernel_rfl) ?_
           refine build_one _ _ rfl rfl Z rfl ?_
           have ba : Below V9.heap.size V9 (V9.alloc (.cells #[.int .u8 ((Z : Nat) : Int)] 5)) := (Below.refl _ _).alloc (Nat.le_refl _) _
           refine ⟨fun _ => ⟨Blk.below' Y5 ba, Blk.below' E5 ba⟩, ?_⟩
           refine zstep 9 rfl rfl (by kernel_rfl) ?_
           refine wp_append_run _ _ _ _ rfl _ _ rfl rfl _ _ r8 ?_
           have Y8 : Blk w8 g7 26 (Iv .u8 (NI (LB y3))) := f7.1.trans Y5
           have E8 : Blk w8 g5 26 (Iv .u8 (NI E)) := f5.1.trans E5
           refine ⟨fun _ => ⟨Y8, E8⟩, ?_⟩
           refine zstep 10 rfl rfl (by kernel_rfl) ?_
           unfold Oper.wp execOp
           go_simp
           refine wpAnyZ_done (by kernel_rfl) ?_ _
           refine aK _ _ ?_
           have q8 : ∀ g, v8.ownBlock = some g → g ≠ g7 ∧ g ≠ g5 := fun g hg => ⟨fun e => f7.2 (e ▸ hg), fun e => f5.2 (e ▸ hg)⟩
           have B9 := B5.trans (B8.mono (show w.heap.size ≤ w.heap.size + 3 by omega))
           rw [List.append_assoc, ← HT.out] at O8
           clear aK hS Y5 E5 B5 O5 r8 B8 F8 f7 f5 ba HT cy ce x1 q5 lo9 ly0 ly1 ly2 ly3 lhk bX bE hx hd hb bK bN bD bb lX lTG s9 szV ngh lt7 s5 gls g5l lE HTG lh OL bL n7 n5 lt8 ltV
           have e3 : wrap64 ((t : Int) + 1) = (t : Int) + 1 := by unfold wrap64; omega
           go_wp2
           exact ⟨⟨t + 1, by omega, by congr 1, Y8, E8, O8, B9, q8⟩, by simp only [intOf]; omega⟩
       ·
        have i1 : (t : Int) < 8 := by omega
        have i0 : (0 : Int) ≤ (t : Int) := by omega
        obtain ⟨n8, hn8⟩ : ∃ m, m = nb * 8 := ⟨_, rfl⟩
        obtain ⟨S, hS⟩ : ∃ m, m = 56 - 8 * t := ⟨_, rfl⟩
        have a1 : IntKind.u64.wrap ((nb : Int) * 8) = (n8 : Int) := by rw [IntKind.wrap_u64]; omega
        have a2 : ((nb : Int) * 8) % 18446744073709551616 = (n8 : Int) := by omega
        have a3 : wrap64 (8 * (t : Int)) = 8 * (t : Int) := by unfold wrap64; omega
        have a4 : wrap64 (56 - 8 * (t : Int)) = (S : Int) := by unfold wrap64; omega
        have a5 : (n8 : Int) / 2 ^ S % 256 = ((n8 / 2 ^ S % 256 : Nat) : Int) := by push_cast; rfl
        have a10 : IntKind.u64.wrap (nb : Int) = (nb : Int) := by rw [IntKind.wrap_u64]; omega
        have a11 : min S 64 = S := by omega
        have a12 : IntKind.u8.wrap ((n8 : Int) / 2 ^ S) = ((n8 / 2 ^ S % 256 : Nat) : Int) := by rw [IntKind.wrap_u8]; exact a5
        have a8 : IntKind.i64.wrap (8 * (t : Int)) = 8 * (t : Int) := by rw [IntKind.wrap_i64]; omega
        have a9 : IntKind.i64.wrap (56 - 8 * (t : Int)) = (S : Int) := by rw [IntKind.wrap_i64]; omega
        have a6 : (nb : Int) % 18446744073709551616 = (nb : Int) := by omega
        have a7 : (0 : Int) ≤ (S : Int) := by omega
        have GB := bitsL_get nb t (by omega)
        rw [← hn8, ← hS] at GB
        have LT := Lib.hid (take_next (bitsL nb) t _ (by rw [bitsL_length]; omega) GB)
        have lt9 : (bitsL nd ++ (bitsL nb).take t).length ≤ 10000 := by have := bitsL_length nb; rw [List.length_append, List.length_take, bitsL_length]; omega
        clear hn8 hS GB
        generalize n8 / 2 ^ S % 256 = Z at *
        obtain ⟨v8, w8, r8, O8, B8⟩ := append_one U2.heap.size U2 wr 24 _ _ Z OL lt9 bL bL.size
        obtain ⟨pl, lc, hlv⟩ := OL.shape
        subst hlv
        go_upto_region 19 with fail
        rename_i aK
        refine wp_region_seq ?_
        refine wpSeq_yield (S := fun w' => w' = wr) (yieldsIf_move rfl _ rfl (.slice pl _ lc) rfl) rfl ?_
        simp only [Act.put, List.setIfInBounds_toArray, List.set_cons_zero, List.set_cons_succ]
        refine wpSeq_yield (S := fun w' => w' = wr) (yieldsIf_move rfl _ rfl (.slice pb nb cb) rfl) rfl ?_
        simp only [Act.put, List.setIfInBounds_toArray, List.set_cons_zero, List.set_cons_succ]
        refine wpSeq_yield (S := fun w' => w' = wr) (v := (.int .i64 (nb : Int))) (Or.inl ⟨rfl, fun w' hw' => ?_⟩) rfl ?_
        ·
         simp only [execOp]
         go_simp
        simp only [Act.put, List.setIfInBounds_toArray, List.set_cons_zero, List.set_cons_succ]
        refine wpSeq_yield (S := fun w' => w' = wr) (v := (.int .u64 (nb : Int))) (Or.inl ⟨rfl, fun w' hw' => ?_⟩) rfl ?_
        ·
         simp only [execOp]
         go_simp
        simp only [Act.put, List.setIfInBounds_toArray, List.set_cons_zero, List.set_cons_succ]
        refine wpSeq_yield (S := fun w' => w' = wr) (v := (.int .u64 (n8 : Int))) (Or.inl ⟨rfl, fun w' hw' => ?_⟩) rfl ?_
        ·
         simp only [execOp]
         go_simp
        simp only [Act.put, List.setIfInBounds_toArray, List.set_cons_zero, List.set_cons_succ]
        refine wpSeq_yield (S := fun w' => w' = wr) (yieldsIf_move rfl _ rfl (.int .i64 (t : Int)) rfl) rfl ?_
        simp only [Act.put, List.setIfInBounds_toArray, List.set_cons_zero, List.set_cons_succ]
        refine wpSeq_yield (S := fun w' => w' = wr) (v := (.int .i64 (8 * (t : Int)))) (Or.inl ⟨rfl, fun w' hw' => ?_⟩) rfl ?_
        ·
         simp only [execOp]
         go_simp
        simp only [Act.put, List.setIfInBounds_toArray, List.set_cons_zero, List.set_cons_succ]
        refine wpSeq_yield (S := fun w' => w' = wr) (v := (.int .i64 (S : Int))) (Or.inl ⟨rfl, fun w' hw' => ?_⟩) rfl ?_
        ·
         simp only [execOp]
         go_simp
        simp only [Act.put, List.setIfInBounds_toArray, List.set_cons_zero, List.set_cons_succ]
        refine wpSeq_yield (S := fun w' => w' = wr) (v := (.int .u64 ((n8 : Int) / 2 ^ S))) (Or.inl ⟨rfl, fun w' hw' => ?_⟩) rfl ?_
        ·
         simp only [execOp]
         go_simp
        simp only [Act.put, List.setIfInBounds_toArray, List.set_cons_zero, List.set_cons_succ]
        refine wpSeq_yield (S := fun w' => w' = wr) (v := (.int .u8 (Z : Int))) (Or.inl ⟨rfl, fun w' hw' => ?_⟩) rfl ?_
        ·
         simp only [execOp]
         go_simp
        simp only [Act.put, List.setIfInBounds_toArray, List.set_cons_zero, List.set_cons_succ]
        clear a1 a2 a3 a4 a5 a6 a7 a8 a9 a10 a11 a12
        refine wpSeq_wp rfl (build_one _ _ rfl rfl Z rfl ?_)
        refine wpSeq_wp rfl (wp_append_run _ _ _ _ rfl _ _ rfl rfl _ _ r8 ?_)
        refine wpSeq_yield (S := fun w' => w' = w8) (yieldsIf_assign rfl _ rfl v8 rfl) rfl ?_
        refine wpSeq_nil ?_
        refine aK _ _ ?_
        clear aK r8 OL bL lt9 nO2 nO4 ly0 ly1 ly2 lhk bX hQ lt7 ngh szV ltV hx hd hb bK bN bD bb n7 lX
        have e3 : wrap64 ((t : Int) + 1) = (t : Int) + 1 := by unfold wrap64; omega
        go_wp2
        exact ⟨⟨t + 1, by omega, by congr 1, by rw [LT.out, ← List.append_assoc]; exact O8, B8⟩, by simp only [intOf]; omega⟩
     ·
      have i1 : (t : Int) < 8 := by omega
      have i0 : (0 : Int) ≤ (t : Int) := by omega
      obtain ⟨n8, hn8⟩ : ∃ m, m = nd * 8 := ⟨_, rfl⟩
      obtain ⟨S, hS⟩ : ∃ m, m = 56 - 8 * t := ⟨_, rfl⟩
      have a1 : IntKind.u64.wrap ((nd : Int) * 8) = (n8 : Int) := by rw [IntKind.wrap_u64]; omega
      have a2 : ((nd : Int) * 8) % 18446744073709551616 = (n8 : Int) := by omega
      have a3 : wrap64 (8 * (t : Int)) = 8 * (t : Int) := by unfold wrap64; omega
      have a4 : wrap64 (56 - 8 * (t : Int)) = (S : Int) := by unfold wrap64; omega
      have a5 : (n8 : Int) / 2 ^ S % 256 = ((n8 / 2 ^ S % 256 : Nat) : Int) := by push_cast; rfl
      have a10 : IntKind.u64.wrap (nd : Int) = (nd : Int) := by rw [IntKind.wrap_u64]; omega
      have a11 : min S 64 = S := by omega
      have a12 : IntKind.u8.wrap ((n8 : Int) / 2 ^ S) = ((n8 / 2 ^ S % 256 : Nat) : Int) := by rw [IntKind.wrap_u8]; exact a5
      have a8 : IntKind.i64.wrap (8 * (t : Int)) = 8 * (t : Int) := by rw [IntKind.wrap_i64]; omega
      have a9 : IntKind.i64.wrap (56 - 8 * (t : Int)) = (S : Int) := by rw [IntKind.wrap_i64]; omega
      have a6 : (nd : Int) % 18446744073709551616 = (nd : Int) := by omega
      have a7 : (0 : Int) ≤ (S : Int) := by omega
      have GB := bitsL_get nd t (by omega)
      rw [← hn8, ← hS] at GB
      have LT := Lib.hid (take_next (bitsL nd) t _ (by rw [bitsL_length]; omega) GB)
      have lt9 : ((bitsL nd).take t).length ≤ 10000 := by have := bitsL_length nd; rw [List.length_take]; omega
      clear hn8 hS GB
      generalize n8 / 2 ^ S % 256 = Z at *
      obtain ⟨v8, w8, r8, O8, B8⟩ := append_one U2.heap.size U2 wr 24 _ _ Z OL lt9 bL bL.size
      obtain ⟨pl, lc, hlv⟩ := OL.shape
      subst hlv
      go_upto_region 15 with fail
      rename_i aK
      refine wp_region_seq ?_
      refine wpSeq_yield (S := fun w' => w' = wr) (yieldsIf_move rfl _ rfl (.slice pl _ lc) rfl) rfl ?_
      simp only [Act.put, List.setIfInBounds_toArray, List.set_cons_zero, List.set_cons_succ]
      refine wpSeq_yield (S := fun w' => w' = wr) (yieldsIf_move rfl _ rfl (.slice pd nd cd) rfl) rfl ?_
      simp only [Act.put, List.setIfInBounds_toArray, List.set_cons_zero, List.set_cons_succ]
      refine wpSeq_yield (S := fun w' => w' = wr) (v := (.int .i64 (nd : Int))) (Or.inl ⟨rfl, fun w' hw' => ?_⟩) rfl ?_
      ·
       simp only [execOp]
       go_simp
      simp only [Act.put, List.setIfInBounds_toArray, List.set_cons_zero, List.set_cons_succ]
      refine wpSeq_yield (S := fun w' => w' = wr) (v := (.int .u64 (nd : Int))) (Or.inl ⟨rfl, fun w' hw' => ?_⟩) rfl ?_
      ·
       simp only [execOp]
       go_simp
      simp only [Act.put, List.setIfInBounds_toArray, List.set_cons_zero, List.set_cons_succ]
      refine wpSeq_yield (S := fun w' => w' = wr) (v := (.int .u64 (n8 : Int))) (Or.inl ⟨rfl, fun w' hw' => ?_⟩) rfl ?_
      ·
       simp only [execOp]
       go_simp
      simp only [Act.put, List.setIfInBounds_toArray, List.set_cons_zero, List.set_cons_succ]
      refine wpSeq_yield (S := fun w' => w' = wr) (yieldsIf_move rfl _ rfl (.int .i64 (t : Int)) rfl) rfl ?_
      simp only [Act.put, List.setIfInBounds_toArray, List.set_cons_zero, List.set_cons_succ]
      refine wpSeq_yield (S := fun w' => w' = wr) (v := (.int .i64 (8 * (t : Int)))) (Or.inl ⟨rfl, fun w' hw' => ?_⟩) rfl ?_
      ·
       simp only [execOp]
       go_simp
      simp only [Act.put, List.setIfInBounds_toArray, List.set_cons_zero, List.set_cons_succ]
      refine wpSeq_yield (S := fun w' => w' = wr) (v := (.int .i64 (S : Int))) (Or.inl ⟨rfl, fun w' hw' => ?_⟩) rfl ?_
      ·
       simp only [execOp]
       go_simp
      simp only [Act.put, List.setIfInBounds_toArray, List.set_cons_zero, List.set_cons_succ]
      refine wpSeq_yield (S := fun w' => w' = wr) (v := (.int .u64 ((n8 : Int) / 2 ^ S))) (Or.inl ⟨rfl, fun w' hw' => ?_⟩) rfl ?_
      ·
       simp only [execOp]
       go_simp
      simp only [Act.put, List.setIfInBounds_toArray, List.set_cons_zero, List.set_cons_succ]
      refine wpSeq_yield (S := fun w' => w' = wr) (v := (.int .u8 (Z : Int))) (Or.inl ⟨rfl, fun w' hw' => ?_⟩) rfl ?_
      ·
       simp only [execOp]
       go_simp
      simp only [Act.put, List.setIfInBounds_toArray, List.set_cons_zero, List.set_cons_succ]
      clear a1 a2 a3 a4 a5 a6 a7 a8 a9 a10 a11 a12
      refine wpSeq_wp rfl (build_one _ _ rfl rfl Z rfl ?_)
      refine wpSeq_wp rfl (wp_append_run _ _ _ _ rfl _ _ rfl rfl _ _ r8 ?_)
      refine wpSeq_yield (S := fun w' => w' = w8) (yieldsIf_assign rfl _ rfl v8 rfl) rfl ?_
      refine wpSeq_nil ?_
      refine aK _ _ ?_
      clear aK r8 OL bL lt9 nO2 nO4 ly0 ly1 ly2 lhk bX hQ lt7 ngh szV ltV hx hd hb bK bN bD bb n7 lX
      have e3 : wrap64 ((t : Int) + 1) = (t : Int) + 1 := by unfold wrap64; omega
      go_wp2
      exact ⟨⟨t + 1, by omega, by congr 1, by rw [LT.out]; exact O8, B8⟩, by simp only [intOf]; omega⟩
  ·
   have l1 : (j : Int) < (nb : Int) := by omega
   have l0 : (0 : Int) ≤ (j : Int) := by omega
   have lj : j < nb := by omega
   clear hjn hj
   have q16 : j / 16 + 2 < 65536 := by have := Nat.div_le_self j 16; omega
   have t16 : (j : Int).tmod 16 = ((j % 16 : Nat) : Int) := by rw [Int.tmod_eq_emod_of_nonneg (by omega)]; omega
   have d16 : (j : Int).tdiv 16 = ((j / 16 : Nat) : Int) := by rw [Int.tdiv_eq_ediv_of_nonneg (by omega)]; omega
   by_cases h16 : j % 16 = 0
   ·
    have r0 : ((j % 16 : Nat) : Int) = 0 := by omega
    go_upto_region 7 with fail
    rename_i aK
    refine wp_region_Z (S := SK w K NN) 8 (by kernel_rfl) ?_
    replace hM := hM.drew
    replace s0 := s0.drew
    replace O0 : OwL (w.heap.size + 3) wr.drew _ _ := O0.below (below_drew (Below.refl _ _))
    replace szW : w.heap.size + 3 ≤ wr.drew.heap.size := szW
    generalize wr.drew = V at hM s0 O0 szW ⊢
    have hS := hM
    have e0 : IntKind.i64.wrap ((j : Int) / 16) = (j : Int) / 16 := by rw [IntKind.wrap_i64]; omega
    have e1 : IntKind.i64.wrap ((j : Int) / 16 + 2) = ((j / 16 + 2 : Nat) : Int) := by rw [IntKind.wrap_i64]; omega
    obtain ⟨q, hq⟩ : ∃ q, q = j / 16 + 2 := ⟨_, rfl⟩
    have C1 := Lib.hid (rcounter_l NN lN bN (j / 16 + 2) q16)
    have C2 := Lib.hid (fun V hx => rencrypt_any V xv hx K (LB (counterF (nF NN) (j / 16 + 2))) lK (LB_length _) bK (LB_bytes' fun i => counterF_lt (fun t => getD_lt bN t) q16 i))
    have lE := ecL_length K NN (j / 16 + 2)
    have ES := Lib.hid (ecL_is K NN (j / 16 + 2))
    rw [← hq] at e1 C1 C2 lE ES
    have HQ := Lib.hid hq
    clear hq
    refine wpAnyZ_takeL 0 rfl (by kernel_rfl) (by kernel_rfl) (by kernel_rfl) (by kernel_rfl) (by kernel_rfl) (fun _ _ _ h => h) (yieldsIf_move rfl _ rfl xv rfl) hS ?_
    simp only [Act.put, List.setIfInBounds_toArray, List.set_cons_zero, List.set_cons_succ]
    refine wpAnyZ_takeL 1 rfl (by kernel_rfl) (by kernel_rfl) (by kernel_rfl) (by kernel_rfl) (by kernel_rfl) (fun _ _ _ h => h) ((show YieldsIf _ _ _ _ (Value.agg (Iv .u8 (NI K))) _ from yieldsIf_row_wanted rfl 26 _ rfl (w.heap.size) rfl 26 _ _ (fun _ h => h.k) Tryd.underlying26 rfl (info_n _ lK))) hS ?_
    simp only [Act.put, List.setIfInBounds_toArray, List.set_cons_zero, List.set_cons_succ]
    refine wpAnyZ_takeL 2 rfl (by kernel_rfl) (by kernel_rfl) (by kernel_rfl) (by kernel_rfl) (by kernel_rfl) (fun _ _ _ h => h) ((show YieldsIf _ _ _ _ (Value.agg (Iv .u8 (NI NN))) _ from yieldsIf_row_wanted rfl 28 _ rfl (w.heap.size + 1) rfl 28 _ _ (fun _ h => h.n) Tryd.underlying28 rfl (info_12 _ lN))) hS ?_
    simp only [Act.put, List.setIfInBounds_toArray, List.set_cons_zero, List.set_cons_succ]
    refine wpAnyZ_takeL 3 rfl (by kernel_rfl) (by kernel_rfl) (by kernel_rfl) (by kernel_rfl) (by kernel_rfl) (fun _ _ _ h => h) (yieldsIf_move rfl _ rfl (.int .i64 (j : Int)) rfl) hS ?_
    simp only [Act.put, List.setIfInBounds_toArray, List.set_cons_zero, List.set_cons_succ]
    refine wpAnyZ_takeL 4 (v := (.int .i64 ((j / 16 : Nat) : Int))) rfl (by kernel_rfl) (by kernel_rfl) (by kernel_rfl) (by kernel_rfl) (by kernel_rfl) (fun _ _ _ h => h) (Or.inl ⟨by rfl, ?_⟩) hS ?_
    ·
     intro w' hw'
     go_simp
    simp only [Act.put, List.setIfInBounds_toArray, List.set_cons_zero, List.set_cons_succ]
    refine wpAnyZ_takeL 5 (v := (.int .i64 (q : Int))) rfl (by kernel_rfl) (by kernel_rfl) (by kernel_rfl) (by kernel_rfl) (by kernel_rfl) (fun _ _ _ h => h) (Or.inl ⟨by rfl, ?_⟩) hS ?_
    ·
     intro w' hw'
     go_simp
    simp only [Act.put, List.setIfInBounds_toArray, List.set_cons_zero, List.set_cons_succ]
    refine zstep 6 rfl rfl (by kernel_rfl) ?_
    unfold Oper.wp execOp
    go_simp
    refine (C1.out _).mono ?_
    rintro _ w9 ⟨rfl, b9⟩
    replace hM := hM.below b9
    replace s0 := Blk.below' s0 b9
    replace O0 := O0.below b9
    replace szW := Nat.le_trans szW b9.size
    clear hS b9
    refine ⟨hM, ?_⟩
    have hS := hM
    refine zstep 7 rfl rfl (by kernel_rfl) ?_
    unfold Oper.wp execOp
    go_simp
    refine (C2.out _ (hx.below hM.bel)).mono ?_
    rintro _ w9 ⟨rfl, b9⟩
    rw [ES.out]
    replace hM := hM.below b9
    replace s0 := Blk.below' s0 b9
    replace O0 := O0.below b9
    replace szW := Nat.le_trans szW b9.size
    clear hS b9
    refine ⟨hM, ?_⟩
    have hS := hM
    refine zstep 8 rfl rfl (by kernel_rfl) ?_
    refine wp_store_row 26 _ _ rfl (w.heap.size + 1 + 1) (Iv .u8 (NI (ecL K NN q))) rfl rfl 26 _ s0 (info_n _ lE) (size_16 (sF_length _ _ _) lE) (Iv_one _ _) ?_
    refine ⟨fun e => Bool.noConfusion ((e.symm.trans (show _ = true from rfl) : false = true)), ?_⟩
    refine wpAnyZ_done (by kernel_rfl) ?_ _
    have s1 := s0.row (Iv .u8 (NI (ecL K NN q)))
    have hM1 := hM.row (g := w.heap.size + 1 + 1) (by omega) (Iv .u8 (NI (ecL K NN q)))
    have O1 : OwL (w.heap.size + 3) (World.setRow w9 (w.heap.size + 1 + 1) (Iv .u8 (NI (ecL K NN q)))) _ _ := O0.of_block fun g hg => by have := (O0.lt g hg).1; exact setRow_other _ _ _ _ (by omega)
    have szW1 : w.heap.size + 3 ≤ (World.setRow w9 (w.heap.size + 1 + 1) (Iv .u8 (NI (ecL K NN q)))).heap.size := Nat.le_trans szW (below_setRow (B := 0) (Below.refl 0 w9) (Nat.zero_le _) _).size
    refine aK _ _ ?_
    clear aK hM s0 O0 szW hS C1 C2 e0 e1
    generalize World.setRow w9 _ _ = U at *
    rw [HQ.out] at s1 lE
    have GXj := GX.out j lj
    obtain ⟨E, hE⟩ : ∃ E, E = ecL K NN (j / 16 + 2) := ⟨_, rfl⟩
    have SN := sF_next K NN j
    have bE : ∀ x ∈ E, x < 256 := by rw [hE]; exact ecL_bytes bK bN q16
    rw [← hE] at GXj SN s1 lE
    clear hE
    have lm : j % 16 < 16 := Nat.mod_lt _ (by decide)
    obtain ⟨m, hm⟩ : ∃ m, m = j % 16 := ⟨_, rfl⟩
    rw [← hm] at GXj lm t16 r0
    clear hm
    have m0 : (0 : Int) ≤ (m : Int) := by omega
    have m1 : (m : Int) < 16 := by omega
    obtain ⟨gb, ob, rfl, hbb⟩ : ∃ g o, pb = some ⟨g, o, none⟩ ∧ BA w g o b := by
     rcases hb.at_ with h0 | h0
     · omega
     · exact h0
    have cb' := Lib.hid (fun w' (h : SK w K NN w') => (hb.below h.bel).cellAt j lj)
    have cs := Lib.hid (fun w' (h : Blk w' (w.heap.size + 1 + 1) 26 (Iv .u8 (NI E))) => cell_of_list h m (by omega))
    have x1 := u8_xor_nat _ _ (getD_lt bb j) (getD_lt bE m)
    have HT := Lib.hid (take_next X j _ (by omega) GXj)
    obtain ⟨x, hxx⟩ : ∃ x, x = b.getD j 0 := ⟨_, rfl⟩
    obtain ⟨y, hyy⟩ : ∃ y, y = E.getD m 0 := ⟨_, rfl⟩
    rw [← hxx] at cb' x1 HT
    rw [← hyy] at cs x1 HT
    clear GXj hxx hyy
    generalize x ^^^ y = Z at *
    go_upto_region 8 with fail
    rename_i aK
    refine wp_region_Z (S := fun w' => SK w K NN w' ∧ Blk w' (w.heap.size + 1 + 1) 26 (Iv .u8 (NI E))) 12 (by kernel_rfl) ?_
    replace hM1 := hM1.drew
    replace s1 := s1.drew
    replace O1 : OwL (w.heap.size + 3) (World.drew U) _ _ := O1.below (below_drew (Below.refl _ _))
    replace szW1 : w.heap.size + 3 ≤ (World.drew U).heap.size := szW1
    generalize World.drew U = V at hM1 s1 O1 szW1 ⊢
    have hS : SK w K NN V ∧ Blk V (w.heap.size + 1 + 1) 26 (Iv .u8 (NI E)) := ⟨hM1, s1⟩
    have lt9 : (X.take j).length = j := by rw [List.length_take]; omega
    obtain ⟨po, co, hov⟩ := O1.shape
    rw [lt9] at hov
    subst hov
    refine wpAnyZ_takeL 0 rfl (by kernel_rfl) (by kernel_rfl) (by kernel_rfl) (by kernel_rfl) (by kernel_rfl) (fun _ _ _ h => h) (yieldsIf_move rfl _ rfl (.slice po j co) rfl) hS ?_
    simp only [Act.put, List.setIfInBounds_toArray, List.set_cons_zero, List.set_cons_succ]
    refine wpAnyZ_takeL 1 rfl (by kernel_rfl) (by kernel_rfl) (by kernel_rfl) (by kernel_rfl) (by kernel_rfl) (fun _ _ _ h => h) (yieldsIf_move rfl _ rfl (.slice (some ⟨gb, ob, none⟩) nb cb) rfl) hS ?_
    simp only [Act.put, List.setIfInBounds_toArray, List.set_cons_zero, List.set_cons_succ]
    refine wpAnyZ_takeL 2 rfl (by kernel_rfl) (by kernel_rfl) (by kernel_rfl) (by kernel_rfl) (by kernel_rfl) (fun _ _ _ h => h) (yieldsIf_move rfl _ rfl (.int .i64 (j : Int)) rfl) hS ?_
    simp only [Act.put, List.setIfInBounds_toArray, List.set_cons_zero, List.set_cons_succ]
    refine wpAnyZ_takeL 3 (v := (.pointer (some ⟨gb, ob + j, none⟩))) rfl (by kernel_rfl) (by kernel_rfl) (by kernel_rfl) (by kernel_rfl) (by kernel_rfl) (fun _ _ _ h => h) (Or.inl ⟨by rfl, ?_⟩) hS ?_
    ·
     intro w' hw'
     go_simp
    simp only [Act.put, List.setIfInBounds_toArray, List.set_cons_zero, List.set_cons_succ]
    refine wpAnyZ_takeL 4 (v := (.int .u8 (x : Int))) rfl (by kernel_rfl) (by kernel_rfl) (by kernel_rfl) (by kernel_rfl) (by kernel_rfl) (fun _ _ _ h => h) (Or.inl ⟨by rfl, ?_⟩) hS ?_
    ·
     intro w' hw'
     have c9 := cb'.out w' hw'.1
     go_simp
    simp only [Act.put, List.setIfInBounds_toArray, List.set_cons_zero, List.set_cons_succ]
    refine wpAnyZ_takeL 5 rfl (by kernel_rfl) (by kernel_rfl) (by kernel_rfl) (by kernel_rfl) (by kernel_rfl) (fun _ _ _ h => h) (yieldsIf_move rfl _ rfl (.int .i64 (j : Int)) rfl) hS ?_
    simp only [Act.put, List.setIfInBounds_toArray, List.set_cons_zero, List.set_cons_succ]
    refine wpAnyZ_takeL 6 (v := (.int .i64 (m : Int))) rfl (by kernel_rfl) (by kernel_rfl) (by kernel_rfl) (by kernel_rfl) (by kernel_rfl) (fun _ _ _ h => h) (Or.inl ⟨by rfl, ?_⟩) hS ?_
    ·
     intro w' hw'
     go_simp
    simp only [Act.put, List.setIfInBounds_toArray, List.set_cons_zero, List.set_cons_succ]
    refine wpAnyZ_takeL 7 (v := (.pointer (some ⟨w.heap.size + 1 + 1, m, none⟩))) rfl (by kernel_rfl) (by kernel_rfl) (by kernel_rfl) (by kernel_rfl) (by kernel_rfl) (fun _ _ _ h => h) (Or.inl ⟨by rfl, ?_⟩) hS ?_
    ·
     intro w' hw'
     go_simp
    simp only [Act.put, List.setIfInBounds_toArray, List.set_cons_zero, List.set_cons_succ]
    refine wpAnyZ_takeL 8 (v := (.int .u8 (y : Int))) rfl (by kernel_rfl) (by kernel_rfl) (by kernel_rfl) (by kernel_rfl) (by kernel_rfl) (fun _ _ _ h => h) (Or.inl ⟨by rfl, ?_⟩) hS ?_
    ·
     intro w' hw'
     have c9 := cs.out w' hw'.2
     go_simp
    simp only [Act.put, List.setIfInBounds_toArray, List.set_cons_zero, List.set_cons_succ]
    refine wpAnyZ_takeL 9 (v := (.int .u8 (Z : Int))) rfl (by kernel_rfl) (by kernel_rfl) (by kernel_rfl) (by kernel_rfl) (by kernel_rfl) (fun _ _ _ h => h) (Or.inl ⟨by rfl, ?_⟩) hS ?_
    ·
     intro w' hw'
     go_simp
    simp only [Act.put, List.setIfInBounds_toArray, List.set_cons_zero, List.set_cons_succ]
    obtain ⟨v8, w8, r8, O8, B8⟩ := append_one (w.heap.size + 3) V V 24 _ _ Z O1 (by omega) (Below.refl _ _) szW1
    refine zstep 10 rfl rfl (by kernel_rfl) ?_
    unfold Oper.wp execOp
    go_simp
    have ba : Below V.heap.size V (V.alloc (.cells #[.int .u8 ((Z : Nat) : Int)] 5)) := (Below.refl _ _).alloc (Nat.le_refl _) _
    refine ⟨⟨hS.1.below ba, Blk.below' hS.2 ba⟩, ?_⟩
    refine zstep 11 rfl rfl (by kernel_rfl) ?_
    refine wp_append_run _ _ _ _ rfl _ _ rfl rfl _ _ r8 ?_
    have hM8 := hM1.under B8 (by omega)
    have s8 := s1.below B8 (by omega)
    refine ⟨fun _ => ⟨hM8, s8⟩, ?_⟩
    refine zstep 12 rfl rfl (by kernel_rfl) ?_
    unfold Oper.wp execOp
    go_simp
    refine wpAnyZ_done (by kernel_rfl) ?_ _
    refine aK _ _ ?_
    rw [← HT.out] at O8
    have sz8 := Nat.le_trans szW1 B8.size
    rw [← SN] at s8
    clear aK hS hM1 s1 O1 szW1 r8 B8 ba HT SN cb' cs x1 lt9 t16 d16 q16 h16 lm m0 m1 lE bE hbb
    have e3 : wrap64 ((j : Int) + 1) = (j : Int) + 1 := by unfold wrap64; omega
    go_wp2
    exact ⟨⟨j + 1, by omega, by congr 1, hM8, s8, O8, sz8⟩, by simp only [intOf]; omega⟩
   ·
    have r0 : ¬ ((j % 16 : Nat) : Int) = 0 := by omega
    have lE := ecL_length K NN (j / 16 + 2)
    have hM1 := hM
    have s1 := s0
    have O1 := O0
    have szW1 := szW
    rw [sF_same _ _ _ h16] at s1
    clear hM s0 O0 szW
    have GXj := GX.out j lj
    obtain ⟨E, hE⟩ : ∃ E, E = ecL K NN (j / 16 + 2) := ⟨_, rfl⟩
    have SN := sF_next K NN j
    have bE : ∀ x ∈ E, x < 256 := by rw [hE]; exact ecL_bytes bK bN q16
    rw [← hE] at GXj SN s1 lE
    clear hE
    have lm : j % 16 < 16 := Nat.mod_lt _ (by decide)
    obtain ⟨m, hm⟩ : ∃ m, m = j % 16 := ⟨_, rfl⟩
    rw [← hm] at GXj lm t16 r0
    clear hm
    have m0 : (0 : Int) ≤ (m : Int) := by omega
    have m1 : (m : Int) < 16 := by omega
    obtain ⟨gb, ob, rfl, hbb⟩ : ∃ g o, pb = some ⟨g, o, none⟩ ∧ BA w g o b := by
     rcases hb.at_ with h0 | h0
     · omega
     · exact h0
    have cb' := Lib.hid (fun w' (h : SK w K NN w') => (hb.below h.bel).cellAt j lj)
    have cs := Lib.hid (fun w' (h : Blk w' (w.heap.size + 1 + 1) 26 (Iv .u8 (NI E))) => cell_of_list h m (by omega))
    have x1 := u8_xor_nat _ _ (getD_lt bb j) (getD_lt bE m)
    have HT := Lib.hid (take_next X j _ (by omega) GXj)
    obtain ⟨x, hxx⟩ : ∃ x, x = b.getD j 0 := ⟨_, rfl⟩
    obtain ⟨y, hyy⟩ : ∃ y, y = E.getD m 0 := ⟨_, rfl⟩
    rw [← hxx] at cb' x1 HT
    rw [← hyy] at cs x1 HT
    clear GXj hxx hyy
    generalize x ^^^ y = Z at *
    go_upto_region 8 with fail
    rename_i aK h9
    clear h9 r0
    refine wp_region_Z (S := fun w' => SK w K NN w' ∧ Blk w' (w.heap.size + 1 + 1) 26 (Iv .u8 (NI E))) 12 (by kernel_rfl) ?_
    replace hM1 := hM1.drew
    replace s1 := s1.drew
    replace O1 : OwL (w.heap.size + 3) (World.drew wr) _ _ := O1.below (below_drew (Below.refl _ _))
    replace szW1 : w.heap.size + 3 ≤ (World.drew wr).heap.size := szW1
    generalize World.drew wr = V at hM1 s1 O1 szW1 ⊢
    have hS : SK w K NN V ∧ Blk V (w.heap.size + 1 + 1) 26 (Iv .u8 (NI E)) := ⟨hM1, s1⟩
    have lt9 : (X.take j).length = j := by rw [List.length_take]; omega
    obtain ⟨po, co, hov⟩ := O1.shape
    rw [lt9] at hov
    subst hov
    refine wpAnyZ_takeL 0 rfl (by kernel_rfl) (by kernel_rfl) (by kernel_rfl) (by kernel_rfl) (by kernel_rfl) (fun _ _ _ h => h) (yieldsIf_move rfl _ rfl (.slice po j co) rfl) hS ?_
    simp only [Act.put, List.setIfInBounds_toArray, List.set_cons_zero, List.set_cons_succ]
    refine wpAnyZ_takeL 1 rfl (by kernel_rfl) (by kernel_rfl) (by kernel_rfl) (by kernel_rfl) (by kernel_rfl) (fun _ _ _ h => h) (yieldsIf_move rfl _ rfl (.slice (some ⟨gb, ob, none⟩) nb cb) rfl) hS ?_
    simp only [Act.put, List.setIfInBounds_toArray, List.set_cons_zero, List.set_cons_succ]
    refine wpAnyZ_takeL 2 rfl (by kernel_rfl) (by kernel_rfl) (by kernel_rfl) (by kernel_rfl) (by kernel_rfl) (fun _ _ _ h => h) (yieldsIf_move rfl _ rfl (.int .i64 (j : Int)) rfl) hS ?_
    simp only [Act.put, List.setIfInBounds_toArray, List.set_cons_zero, List.set_cons_succ]
    refine wpAnyZ_takeL 3 (v := (.pointer (some ⟨gb, ob + j, none⟩))) rfl (by kernel_rfl) (by kernel_rfl) (by kernel_rfl) (by kernel_rfl) (by kernel_rfl) (fun _ _ _ h => h) (Or.inl ⟨by rfl, ?_⟩) hS ?_
    ·
     intro w' hw'
     go_simp
    simp only [Act.put, List.setIfInBounds_toArray, List.set_cons_zero, List.set_cons_succ]
    refine wpAnyZ_takeL 4 (v := (.int .u8 (x : Int))) rfl (by kernel_rfl) (by kernel_rfl) (by kernel_rfl) (by kernel_rfl) (by kernel_rfl) (fun _ _ _ h => h) (Or.inl ⟨by rfl, ?_⟩) hS ?_
    ·
     intro w' hw'
     have c9 := cb'.out w' hw'.1
     go_simp
    simp only [Act.put, List.setIfInBounds_toArray, List.set_cons_zero, List.set_cons_succ]
    refine wpAnyZ_takeL 5 rfl (by kernel_rfl) (by kernel_rfl) (by kernel_rfl) (by kernel_rfl) (by kernel_rfl) (fun _ _ _ h => h) (yieldsIf_move rfl _ rfl (.int .i64 (j : Int)) rfl) hS ?_
    simp only [Act.put, List.setIfInBounds_toArray, List.set_cons_zero, List.set_cons_succ]
    refine wpAnyZ_takeL 6 (v := (.int .i64 (m : Int))) rfl (by kernel_rfl) (by kernel_rfl) (by kernel_rfl) (by kernel_rfl) (by kernel_rfl) (fun _ _ _ h => h) (Or.inl ⟨by rfl, ?_⟩) hS ?_
    ·
     intro w' hw'
     go_simp
    simp only [Act.put, List.setIfInBounds_toArray, List.set_cons_zero, List.set_cons_succ]
    refine wpAnyZ_takeL 7 (v := (.pointer (some ⟨w.heap.size + 1 + 1, m, none⟩))) rfl (by kernel_rfl) (by kernel_rfl) (by kernel_rfl) (by kernel_rfl) (by kernel_rfl) (fun _ _ _ h => h) (Or.inl ⟨by rfl, ?_⟩) hS ?_
    ·
     intro w' hw'
     go_simp
    simp only [Act.put, List.setIfInBounds_toArray, List.set_cons_zero, List.set_cons_succ]
    refine wpAnyZ_takeL 8 (v := (.int .u8 (y : Int))) rfl (by kernel_rfl) (by kernel_rfl) (by kernel_rfl) (by kernel_rfl) (by kernel_rfl) (fun _ _ _ h => h) (Or.inl ⟨by rfl, ?_⟩) hS ?_
    ·
     intro w' hw'
     have c9 := cs.out w' hw'.2
     go_simp
    simp only [Act.put, List.setIfInBounds_toArray, List.set_cons_zero, List.set_cons_succ]
    refine wpAnyZ_takeL 9 (v := (.int .u8 (Z : Int))) rfl (by kernel_rfl) (by kernel_rfl) (by kernel_rfl) (by kernel_rfl) (by kernel_rfl) (fun _ _ _ h => h) (Or.inl ⟨by rfl, ?_⟩) hS ?_
    ·
     intro w' hw'
     go_simp
    simp only [Act.put, List.setIfInBounds_toArray, List.set_cons_zero, List.set_cons_succ]
    obtain ⟨v8, w8, r8, O8, B8⟩ := append_one (w.heap.size + 3) V V 24 _ _ Z O1 (by omega) (Below.refl _ _) szW1
    refine zstep 10 rfl rfl (by kernel_rfl) ?_
    unfold Oper.wp execOp
    go_simp
    have ba : Below V.heap.size V (V.alloc (.cells #[.int .u8 ((Z : Nat) : Int)] 5)) := (Below.refl _ _).alloc (Nat.le_refl _) _
    refine ⟨⟨hS.1.below ba, Blk.below' hS.2 ba⟩, ?_⟩
    refine zstep 11 rfl rfl (by kernel_rfl) ?_
    refine wp_append_run _ _ _ _ rfl _ _ rfl rfl _ _ r8 ?_
    have hM8 := hM1.under B8 (by omega)
    have s8 := s1.below B8 (by omega)
    refine ⟨fun _ => ⟨hM8, s8⟩, ?_⟩
    refine zstep 12 rfl rfl (by kernel_rfl) ?_
    unfold Oper.wp execOp
    go_simp
    refine wpAnyZ_done (by kernel_rfl) ?_ _
    refine aK _ _ ?_
    rw [← HT.out] at O8
    have sz8 := Nat.le_trans szW1 B8.size
    rw [← SN] at s8
    clear aK hS hM1 s1 O1 szW1 r8 B8 ba HT SN cb' cs x1 lt9 t16 d16 q16 h16 lm m0 m1 lE bE hbb
    have e3 : wrap64 ((j : Int) + 1) = (j : Int) + 1 := by unfold wrap64; omega
    go_wp2
    exact ⟨⟨j + 1, by omega, by congr 1, hM8, s8, O8, sz8⟩, by simp only [intOf]; omega⟩
end Go.Proofs.YtpihgljdbpnehaaDoor
