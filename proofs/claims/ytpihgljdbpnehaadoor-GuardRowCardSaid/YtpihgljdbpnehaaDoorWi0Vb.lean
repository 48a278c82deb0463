/- The program's tag: its contract. What the program's Seal and Open are asked to answer; strings of bytes; Awake of gcm. -/
import Derived.Test.YtpihgljdbpnehaaDoorWh
import Derived.Test.YtpihgljdbpnehaaDoorHSa0Zb
import Derived.Test.YtpihgljdbpnehaaDoorGf0Qa
import Derived.Laws.BytesArg
namespace Go.Proofs.YtpihgljdbpnehaaDoor
open Go.RowKit
theorem lens_one (n m : Nat) (hn : n < 1000000) : wB (fun i => (lensL n m).getD (16 * 0 + i) 0) 0 8 = n * 8 := by
  simp only [wB, lensL, bitsL, List.range, List.range.loop, List.map_cons, List.map_nil, List.cons_append, List.nil_append, Nat.mul_zero, Nat.zero_add, List.getD_cons_zero, List.getD_cons_succ]
  omega
theorem lens_two (n m : Nat) (hm : m < 1000000) : wB (fun i => (lensL n m).getD (16 * 0 + i) 0) 8 8 = m * 8 := by
  simp only [wB, lensL, bitsL, List.range, List.range.loop, List.map_cons, List.map_nil, List.cons_append, List.nil_append, Nat.mul_zero, Nat.zero_add, Nat.reduceAdd, List.getD_cons_zero, List.getD_cons_succ]
  omega
/-- What stands in tag. -/
structure TGM (w0 : World) (gc : Nat) (k nn : List Nat) (w : World) : Prop where
  c : CI w gc (KM boxL k 11) boxL
  s : Blk w w0.heap.size 91 (sv gc nn)
  r : BB w (w0.heap.size + 1) (fun _ => 0)
  bel : Below w0.heap.size w0 w
  far : gc < w0.heap.size
section
variable {w0 w w1 : World} {gc : Nat} {k nn : List Nat}
theorem TGM.below (H : TGM w0 gc k nn w) (c : Below w.heap.size w w1) : TGM w0 gc k nn w1 := ⟨H.c.below c, Blk.below' H.s c, Blk.below' H.r c, H.bel.trans (c.mono H.bel.size), H.far⟩
theorem TGM.drew (H : TGM w0 gc k nn w) : TGM w0 gc k nn w.drew := ⟨H.c.of_block rfl, H.s.drew, H.r.of_block rfl, below_drew H.bel, H.far⟩
theorem TGM.row (H : TGM w0 gc k nn w) {g : Nat} (hg : w0.heap.size + 1 < g) (cs : Array Value) : TGM w0 gc k nn (w.setRow g cs) :=
  have := H.far
  ⟨Blk.rowFar H.c (by omega) _, Blk.rowFar H.s (by omega) _, Blk.rowFar H.r (by omega) _, below_setRow H.bel (by omega) _, H.far⟩
theorem TGM.lt (H : TGM w0 gc k nn w) : w0.heap.size + 1 < w.heap.size := Blk.lt H.r
end
/-- With the factor, and what has come so far. -/
structure TGY (w0 : World) (gc g7 g8 : Nat) (k nn : List Nat) (h0 h1 y0 y1 : Nat) (w : World) : Prop where
  m : TGM w0 gc k nn w
  f : PB w g7 h0 h1
  y : PB w g8 y0 y1
  f7 : w0.heap.size + 1 < g7
  f8 : g7 < g8
section
variable {w0 w w1 : World} {gc g7 g8 : Nat} {k nn : List Nat} {h0 h1 y0 y1 : Nat}
theorem TGY.below (H : TGY w0 gc g7 g8 k nn h0 h1 y0 y1 w) (c : Below w.heap.size w w1) : TGY w0 gc g7 g8 k nn h0 h1 y0 y1 w1 := ⟨H.m.below c, Blk.below' H.f c, Blk.below' H.y c, H.f7, H.f8⟩
theorem TGY.drew (H : TGY w0 gc g7 g8 k nn h0 h1 y0 y1 w) : TGY w0 gc g7 g8 k nn h0 h1 y0 y1 w.drew := ⟨H.m.drew, H.f.drew, H.y.drew, H.f7, H.f8⟩
theorem TGY.setY (H : TGY w0 gc g7 g8 k nn h0 h1 y0 y1 w) (z0 z1 : Nat) : TGY w0 gc g7 g8 k nn h0 h1 z0 z1 (w.setRow g8 (pc z0 z1)) :=
  have := H.f7
  have := H.f8
  ⟨H.m.row (by omega) _, Blk.rowFar H.f (by omega) _, Blk.row H.y _, H.f7, H.f8⟩
end
set_option maxHeartbeats 8000000 in
set_option maxRecDepth 100000 in
theorem tag_w (gc : Nat) (k nn D ct : List Nat) (lk : k.length = 16) (ln : nn.length = 12) (bk : ∀ x ∈ k, x < 256) (bn : ∀ x ∈ nn, x < 256) (bD : ∀ x ∈ D, x < 256) (bc : ∀ x ∈ ct, x < 256) (nd nc cd cc : Nat) (hnd : nd ≤ 2000) (hnc : nc ≤ 2000) (pd pq : Option Addr) (w : World)
    (hC : CI w gc (KM boxL k 11) boxL) (hD : SB w (.slice pd nd cd) D) (hc : SB w (.slice pq nc cc) ct) :
    Calls Tryd.prog 48 #[.agg (sv gc nn), .slice pd nd cd, .slice pq nc cc] w fun e w' => e = .returned (.agg (Iv .u8 (NI (tagL k nn D ct)))) ∧ Below w.heap.size w w' := by
  have eD := hD.len.1
  have eC := hc.len.1
  have hH := hK_lt bk
  have CE := Lib.hid (fun W h => ciph_any gc k (LB fun _ => 0) lk bk (LB_length _) (LB_bytes fun i _ => by decide) W h)
  rw [show encL boxL k (LB fun _ => 0) = LB (hK k) from (LB_of _ (encL_length _ _)).symm] at CE
  have CR := Lib.hid (fun W => read_w (hK k) hH W)
  have CS := fun v W h => sum_w (hK k) hH [D, ct] (fun l hl => by
    rcases List.mem_cons.1 hl with rfl | hl
    · exact bD
    · rw [List.mem_singleton.1 hl]; exact bc) (fun l hl => by
    rcases List.mem_cons.1 hl with rfl | hl
    · omega
    · rw [List.mem_singleton.1 hl]; omega) v (by simp) W h
  have hY := partF_lt hH [D, ct] 2
  rw [show [D, ct].length = 2 from rfl] at CS
  have CB1 := Lib.hid (fun W => bits_w pd nd cd (by omega) W)
  have CB2 := Lib.hid (fun W => bits_w pq nc cc (by omega) W)
  have bL : ∀ i, joinF (partF (hK k) [D, ct] 2) (lensL nd nc) 0 i < 256 := joinF_lt hY (lensL_bytes nd nc) 0
  have eJ : ∀ o, wB (joinF (partF (hK k) [D, ct] 2) (lensL nd nc) 0) o 8 = wB (partF (hK k) [D, ct] 2) o 8 ^^^ wB (fun i => (lensL nd nc).getD (16 * 0 + i) 0) o 8 := fun o => wB_xor hY (fun i => Bytes.getD (lensL_bytes nd nc) _) o 8
  have CP1 := fun W => plus_w (wB (partF (hK k) [D, ct] 2) 0 8) (wB (partF (hK k) [D, ct] 2) 8 8) (nd * 8) (nc * 8) (wB_lt8 hY 0) (wB_lt8 hY 8) (by omega) (by omega) W
  have e0 := eJ 0
  have e8 := eJ 8
  rw [lens_one nd nc (by omega)] at e0
  rw [lens_two nd nc (by omega)] at e8
  rw [← e0, ← e8] at CP1
  have CT := fun W => times_w (joinF (partF (hK k) [D, ct] 2) (lensL nd nc) 0) (hK k) bL hH W
  have eT : timesF (joinF (partF (hK k) [D, ct] 2) (lensL nd nc) 0) (hK k) = tagY k D ct := by
    unfold tagY
    rw [← eD, ← eC]
    conv => rhs; rw [show ∀ y h, hashL y h (lensL nd nc) = hashF y h (lensL nd nc) 1 from fun y h => by unfold hashL; rw [lensL_length]]
    rfl
  rw [eT] at CT
  have hT : ∀ i, tagY k D ct i < 256 := fun i => tagY_lt bk i
  have CM := fun W h => mask_w gc k nn lk ln bk bn 1 (by omega) W h
  have hE : ∀ i, (ecL k nn 1).getD i 0 < 256 := fun i => getD_lt (ecL_bytes bk bn (by omega)) i
  rw [show ecL k nn 1 = LB (fun i => (ecL k nn 1).getD i 0) from (LB_of _ (ecL_length _ _ _)).symm] at CM
  have CR2 := Lib.hid (fun W => read_w (fun i => (ecL k nn 1).getD i 0) hE W)
  have CP2 := fun W => plus_w (wB (tagY k D ct) 0 8) (wB (tagY k D ct) 8 8) (wB (fun i => (ecL k nn 1).getD i 0) 0 8) (wB (fun i => (ecL k nn 1).getD i 0) 8 8) (wB_lt8 hT 0) (wB_lt8 hT 8) (wB_lt8 hE 0) (wB_lt8 hE 8) W
  rw [← wB_xor hT hE, ← wB_xor hT hE] at CP2
  have CB := Lib.hid (fun W => block_w (fun i => tagY k D ct i ^^^ (ecL k nn 1).getD i 0) (fun i => xor_256 (hT i) (hE i)) W)
  rw [show tagL k nn D ct = LB (fun i => tagY k D ct i ^^^ (ecL k nn 1).getD i 0) from rfl]
  generalize (fun i => tagY k D ct i ^^^ (ecL k nn 1).getD i 0) = X at *
  generalize (fun i => (ecL k nn 1).getD i 0) = E at *
  generalize tagY k D ct = T at *
  generalize joinF (partF (hK k) [D, ct] 2) (lensL nd nc) 0 = J at *
  generalize partF (hK k) [D, ct] 2 = Y at *
  generalize hK k = F at *
  replace CP1 := Lib.hid CP1
  replace CT := Lib.hid CT
  replace CM := Lib.hid CM
  replace CP2 := Lib.hid CP2
  replace CS := Lib.hid CS
  clear hH hY bL eJ e0 e8 eT hT hE eD eC bD bc bk bn
  have hD0 := hD
  have hc0 := hc
  go_enter Tryd.func48, Tryd.ntmps48
  go_upto_region 1 with fail
  rename_i aK
  generalize hW : World.alloc (World.alloc w _) _ = W
  have hM : TGM w gc k nn W := ⟨hC.below (hW ▸ ((Below.refl w.heap.size w).alloc (Nat.le_refl _) _).alloc (by simp) _), hW ▸ (Blk.new w _ (sv gc nn)).alloc _, hW ▸ Blk.new' (by simp) _ (Iv .u8 (NI (LB fun _ => 0))), hW ▸ ((Below.refl w.heap.size w).alloc (Nat.le_refl _) _).alloc (by simp) _, hC.lt⟩
  clear hW hC hD hc
  have c0 := sv_zero hM.s
  have hm : ∀ w : World, (method 262 86 (.pointer (some ⟨gc, 0, none⟩)) "Encrypt").run Tryd.prog w = .ok (73, .pointer (some ⟨gc, 0, none⟩)) w := fun _ => by kernel_rfl
  go_wp2_with fail
  refine (CE.out _ hM.c).mono ?_
  rintro _ w1 ⟨rfl, b1⟩
  replace hM := hM.below b1
  clear b1 CE c0 hm
  go_wp2_with fail
  refine (CR.out _).mono ?_
  rintro _ w2 ⟨rfl, b2⟩
  replace hM := hM.below b2
  clear b2 CR
  go_upto_region 2 with (refine wpList_store_row rfl 119 _ _ rfl w2.heap.size (pc (wB F 0 8) (wB F 8 8)) rfl rfl 119 _ (Blk.new w2 119 (pc 0 0)) (info_pc _ _) rfl (pc_one _ _) ?_)
  change Code.wp _ _ _ _ (World.setRow (w2.alloc (.cells (pc 0 0) 119)) w2.heap.size _)
  have K7 : PB (World.setRow (w2.alloc (.cells (pc 0 0) 119)) w2.heap.size (pc (wB F 0 8) (wB F 8 8))) w2.heap.size (wB F 0 8) (wB F 8 8) := Blk.row (Blk.new w2 119 (pc 0 0)) _
  have f7 := hM.lt
  replace hM := (hM.below ((Below.refl w2.heap.size w2).alloc (Nat.le_refl _) (.cells (pc 0 0) 119))).row f7 (pc (wB F 0 8) (wB F 8 8))
  generalize World.setRow _ _ _ = w3 at *
  generalize w2.heap.size = g7 at *
  simp only [Act.put]
  go_upto_region 3 with (first | (refine wpList_load_row rfl 119 _ rfl g7 rfl 119 _ (0, 0) _ K7 Tryd.underlying119 rfl (info_pc _ _) ?_) | fail)
  have b4 := (Below.refl w3.heap.size w3).alloc (Nat.le_refl _) (.cells #[.slice pd nd cd, .slice pq nc cc] 24)
  refine (CS.out _ _ (SP.two (Blk.new w3 _ _) (hD0.below (hM.bel.trans (b4.mono hM.bel.size))) (hc0.below (hM.bel.trans (b4.mono hM.bel.size))))).mono ?_
  rintro _ w5 ⟨rfl, b5⟩
  replace b4 := b4.trans (b5.mono b4.size)
  replace hM := hM.below b4
  replace K7 : PB w5 g7 (wB F 0 8) (wB F 8 8) := Blk.below' K7 b4
  clear b4 b5 CS hD0 hc0
  go_upto_region 3 with (refine wpList_store_row rfl 119 _ _ rfl w5.heap.size (pc (wB Y 0 8) (wB Y 8 8)) rfl rfl 119 _ (Blk.new w5 119 (pc 0 0)) (info_pc _ _) rfl (pc_one _ _) ?_)
  change Code.wp _ _ _ _ (World.setRow (w5.alloc (.cells (pc 0 0) 119)) w5.heap.size _)
  have f8 := Blk.lt K7
  have hG : TGY w gc g7 w5.heap.size k nn (wB F 0 8) (wB F 8 8) (wB Y 0 8) (wB Y 8 8) (World.setRow (w5.alloc (.cells (pc 0 0) 119)) w5.heap.size (pc (wB Y 0 8) (wB Y 8 8))) :=
    ⟨(hM.below ((Below.refl w5.heap.size w5).alloc (Nat.le_refl _) (.cells (pc 0 0) 119))).row (by omega) _, Blk.rowFar (Blk.alloc K7 _) (by omega) _, Blk.row (Blk.new w5 119 (pc 0 0)) _, f7, f8⟩
  generalize World.setRow _ _ _ = w6 at *
  generalize w5.heap.size = g8 at *
  clear hM K7 f7 f8
  simp only [Act.put]
  rename_i aK
  refine wp_region_Z (S := TGY w gc g7 g8 k nn (wB F 0 8) (wB F 8 8) (wB Y 0 8) (wB Y 8 8)) 9 (by kernel_rfl) ?_
  replace hG := hG.drew
  generalize w6.drew = V at hG ⊢
  have hS := hG
  refine wpAnyZ_takeL 0 rfl (by kernel_rfl) (by kernel_rfl) (by kernel_rfl) (by kernel_rfl) (by kernel_rfl) (fun _ _ _ H => H) (show YieldsIf _ _ _ _ (Value.agg (pc (wB Y 0 8) (wB Y 8 8))) _ from yieldsIf_row_wanted rfl 119 _ rfl g8 rfl 119 _ _ (fun _ H => H.y) Tryd.underlying119 rfl (info_pc _ _)) hS ?_
  simp only [Act.put, List.setIfInBounds_toArray, List.set_cons_zero, List.set_cons_succ]
  refine wpAnyZ_takeL 1 rfl (by kernel_rfl) (by kernel_rfl) (by kernel_rfl) (by kernel_rfl) (by kernel_rfl) (fun _ _ _ H => H) (yieldsIf_move rfl _ rfl (.slice pd nd cd) rfl) hS ?_
  simp only [Act.put, List.setIfInBounds_toArray, List.set_cons_zero, List.set_cons_succ]
  refine wpAnyZ_takeL 3 rfl (by kernel_rfl) (by kernel_rfl) (by kernel_rfl) (by kernel_rfl) (by kernel_rfl) (fun _ _ _ H => H) (yieldsIf_move rfl _ rfl (.slice pq nc cc) rfl) hS ?_
  simp only [Act.put, List.setIfInBounds_toArray, List.set_cons_zero, List.set_cons_succ]
  refine wpAnyZ_takeL 7 rfl (by kernel_rfl) (by kernel_rfl) (by kernel_rfl) (by kernel_rfl) (by kernel_rfl) (fun _ _ _ H => H) (show YieldsIf _ _ _ _ (Value.agg (pc (wB F 0 8) (wB F 8 8))) _ from yieldsIf_row_wanted rfl 119 _ rfl g7 rfl 119 _ _ (fun _ H => H.f) Tryd.underlying119 rfl (info_pc _ _)) hS ?_
  simp only [Act.put, List.setIfInBounds_toArray, List.set_cons_zero, List.set_cons_succ]
  refine zstep 2 rfl rfl (by kernel_rfl) ?_
  unfold Oper.wp execOp
  go_simp
  refine (CB1.out _).mono ?_
  rintro _ w8 ⟨rfl, b8⟩
  replace hG := hG.below b8
  clear hS b8
  refine ⟨hG, ?_⟩
  have hS := hG
  refine zstep 4 rfl rfl (by kernel_rfl) ?_
  unfold Oper.wp execOp
  go_simp
  refine (CB2.out _).mono ?_
  rintro _ w9 ⟨rfl, b9⟩
  replace hG := hG.below b9
  clear hS b9
  refine ⟨hG, ?_⟩
  have hS := hG
  refine wpAnyZ_takeL 5 (v := .agg (pc (nd * 8) (nc * 8))) rfl (by kernel_rfl) (by kernel_rfl) (by kernel_rfl) (by kernel_rfl) (by kernel_rfl) (fun _ _ _ H => H) (Or.inl ⟨by rfl, fun w' hw' => by go_simp; rfl⟩) hS ?_
  simp only [Act.put, List.setIfInBounds_toArray, List.set_cons_zero, List.set_cons_succ]
  refine zstep 6 rfl rfl (by kernel_rfl) ?_
  unfold Oper.wp execOp
  go_simp
  refine (CP1.out _).mono ?_
  rintro _ w10 ⟨rfl, b10⟩
  replace hG := hG.below b10
  clear hS b10
  refine ⟨hG, ?_⟩
  have hS := hG
  refine zstep 8 rfl rfl (by kernel_rfl) ?_
  unfold Oper.wp execOp
  go_simp
  refine (CT.out _).mono ?_
  rintro _ w11 ⟨rfl, b11⟩
  replace hG := hG.below b11
  clear hS b11
  refine ⟨hG, ?_⟩
  have hS := hG
  refine zstep 9 rfl rfl (by kernel_rfl) ?_
  refine wp_store_row 119 _ _ rfl g8 (pc (wB T 0 8) (wB T 8 8)) rfl rfl 119 _ hG.y (info_pc _ _) rfl (pc_one _ _) ?_
  refine ⟨fun e => Bool.noConfusion ((e.symm.trans (show _ = true from rfl) : false = true)), ?_⟩
  refine wpAnyZ_done (by kernel_rfl) ?_ _
  replace hG := hG.setY (wB T 0 8) (wB T 8 8)
  clear hS
  generalize World.setRow _ _ _ = w7 at *
  simp only [Act.put]
  refine aK _ _ ?_
  clear aK
  go_upto_region 4 with fail
  rename_i aK
  refine wp_region_Z (S := TGY w gc g7 g8 k nn (wB F 0 8) (wB F 8 8) (wB T 0 8) (wB T 8 8)) 6 (by kernel_rfl) ?_
  replace hG := hG.drew
  generalize w7.drew = V at hG ⊢
  have hS := hG
  refine wpAnyZ_takeL 0 rfl (by kernel_rfl) (by kernel_rfl) (by kernel_rfl) (by kernel_rfl) (by kernel_rfl) (fun _ _ _ H => H) (show YieldsIf _ _ _ _ (Value.agg (pc (wB T 0 8) (wB T 8 8))) _ from yieldsIf_row_wanted rfl 119 _ rfl g8 rfl 119 _ _ (fun _ H => H.y) Tryd.underlying119 rfl (info_pc _ _)) hS ?_
  simp only [Act.put, List.setIfInBounds_toArray, List.set_cons_zero, List.set_cons_succ]
  refine wpAnyZ_takeL 1 rfl (by kernel_rfl) (by kernel_rfl) (by kernel_rfl) (by kernel_rfl) (by kernel_rfl) (fun _ _ _ H => H) (show YieldsIf _ _ _ _ (Value.agg (sv gc nn)) _ from yieldsIf_row_wanted rfl 91 _ rfl w.heap.size rfl 91 _ _ (fun _ H => H.m.s) Tryd.underlying91 rfl (info_sv gc nn ln)) hS ?_
  simp only [Act.put, List.setIfInBounds_toArray, List.set_cons_zero, List.set_cons_succ]
  refine zstep 2 rfl rfl (by kernel_rfl) ?_
  unfold Oper.wp execOp
  go_simp
  refine (CM.out _ hG.m.c).mono ?_
  rintro _ w12 ⟨rfl, b12⟩
  replace hG := hG.below b12
  clear hS b12
  refine ⟨hG, ?_⟩
  have hS := hG
  refine zstep 3 rfl rfl (by kernel_rfl) ?_
  unfold Oper.wp execOp
  go_simp
  refine (CR2.out _).mono ?_
  rintro _ w13 ⟨rfl, b13⟩
  replace hG := hG.below b13
  clear hS b13
  refine ⟨hG, ?_⟩
  have hS := hG
  refine zstep 4 rfl rfl (by kernel_rfl) ?_
  unfold Oper.wp execOp
  go_simp
  refine (CP2.out _).mono ?_
  rintro _ w14 ⟨rfl, b14⟩
  replace hG := hG.below b14
  clear hS b14
  refine ⟨hG, ?_⟩
  have hS := hG
  refine zstep 5 rfl rfl (by kernel_rfl) ?_
  unfold Oper.wp execOp
  go_simp
  refine (CB.out _).mono ?_
  rintro _ w15 ⟨rfl, b15⟩
  replace hG := hG.below b15
  clear hS b15
  refine ⟨hG, ?_⟩
  have hS := hG
  refine zstep 6 rfl rfl (by kernel_rfl) ?_
  refine wp_store_row 27 _ _ rfl (w.heap.size + 1) (Iv .u8 (NI (LB X))) rfl rfl 27 _ hG.m.r (info_bl _) (by rw [Iv_size, Iv_size, NI_length, NI_length, LB_length, LB_length]) (Iv_one _ _) ?_
  refine ⟨fun e => Bool.noConfusion ((e.symm.trans (show _ = true from rfl) : false = true)), ?_⟩
  refine wpAnyZ_done (by kernel_rfl) ?_ _
  refine aK _ _ ?_
  clear aK hS
  have RR := Blk.row hG.m.r (Iv .u8 (NI (LB X)))
  have BB := below_setRow hG.m.bel (g := w.heap.size + 1) (by omega) (Iv .u8 (NI (LB X)))
  generalize World.setRow _ _ _ = w20 at *
  clear hG
  simp only [Act.put]
  go_wp2
  exact bodyPost_ret (results_cell_row rfl _ _ _ 27 _ (0, 0) _ rfl RR Tryd.underlying27 rfl (info_bl _)) rfl ⟨rfl, BB⟩
end Go.Proofs.YtpihgljdbpnehaaDoor
namespace Go.Proofs.YtpihgljdbpnehaaDoor
open Go.RowKit
/-- What the program's Seal is asked to answer: new bytes, sealed. -/
def SealC : Prop := ∀ (k nn D b S : List Nat) (pd pb : Option Addr) (nd nb cd cb : Nat), k.length = 16 → nn.length = 12 → (∀ x ∈ k, x < 256) → (∀ x ∈ nn, x < 256) → (∀ x ∈ D, x < 256) → (∀ x ∈ b, x < 256) → nd ≤ 1000 → nb ≤ 1000 → S = sealL k nn D b →
  ∀ W, SB W (.slice pd nd cd) D → SB W (.slice pb nb cb) b → Calls Tryd.prog 27 #[.agg (Iv .u8 (NI k)), .agg (Iv .u8 (NI nn)), .slice pd nd cd, .slice pb nb cb] W fun e w' => ∃ v, e = .returned v ∧ OwL W.heap.size w' v S ∧ Below W.heap.size W w'
/-- What its Open is asked to answer: what was sealed so, in new memory, and true; else nothing, and false. -/
def OpenC : Prop := ∀ (k nn D s : List Nat) (o : Option (List Nat)) (pd ps : Option Addr) (nd ns cd cs : Nat), k.length = 16 → nn.length = 12 → (∀ x ∈ k, x < 256) → (∀ x ∈ nn, x < 256) → (∀ x ∈ D, x < 256) → (∀ x ∈ s, x < 256) → nd ≤ 1000 → ns ≤ 1000 → o = openL k nn D s →
  ∀ W, SB W (.slice pd nd cd) D → SB W (.slice ps ns cs) s → Calls Tryd.prog 39 #[.agg (Iv .u8 (NI k)), .agg (Iv .u8 (NI nn)), .slice pd nd cd, .slice ps ns cs] W fun e w' => ∃ v, e = .returned (.tuple #[v, .bool o.isSome]) ∧ OwL W.heap.size w' v (o.getD []) ∧ Below W.heap.size W w'
end Go.Proofs.YtpihgljdbpnehaaDoor
