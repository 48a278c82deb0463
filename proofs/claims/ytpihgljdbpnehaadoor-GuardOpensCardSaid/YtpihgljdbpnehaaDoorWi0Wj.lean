/- The program's tag: its contract. What the program's Seal and Open are asked to answer; strings of bytes; Awake of gcm. The program's Seal: its contract (printed by genwj.py). -/
import Derived.Test.YtpihgljdbpnehaaDoorWg0Wh
import Derived.Test.YtpihgljdbpnehaaDoorLq0Nb
import Derived.Test.YtpihgljdbpnehaaDoorGf
import Derived.Laws.BytesArg
import Derived.Laws.MakeOwn
namespace Go.Proofs.YtpihgljdbpnehaaDoor
open Go.RowKit
theorem lens_one (n m : Nat) (hn : n < 1000000) : wB (fun i => (lensL n m).getD (16 * 0 + i) 0) 0 8 = n * 8 := by
 simp only [wB, lensL, bitsL, List.range, List.range.loop, List.map_cons, List.map_nil, List.cons_append, List.nil_append, Nat.mul_zero, Nat.zero_add, List.getD_cons_zero, List.getD_cons_succ]
 omega
theorem lens_two (n m : Nat) (hm : m < 1000000) : wB (fun i => (lensL n m).getD (16 * 0 + i) 0) 8 8 = m * 8 := by
 simp only [wB, lensL, bitsL, List.range, List.range.loop, List.map_cons, List.map_nil, List.cons_append, List.nil_append, Nat.mul_zero, Nat.zero_add, Nat.reduceAdd, List.getD_cons_zero, List.getD_cons_succ]
 omega
/-- What stands in tag. -/
structure TGM (w0 : World) (gc : Nat) (k nn : List Nat) (w : World) : Prop where
 c : CI w gc (KM boxL k 11) boxL
 s : Blk w w0.heap.size 91 (sv gc nn)
 r : BB w (w0.heap.size + 1) (fun _ => 0)
 bel : Below w0.heap.size w0 w
 far : gc < w0.heap.size
section
variable {w0 w w1 : World} {gc : Nat} {k nn : List Nat}
theorem TGM.below (H : TGM w0 gc k nn w) (c : Below w.heap.size w w1) : TGM w0 gc k nn w1 := ⟨H.c.below c, Blk.below' H.s c, Blk.below' H.r c, H.bel.trans (c.mono H.bel.size), H.far⟩
theorem TGM.drew (H : TGM w0 gc k nn w) : TGM w0 gc k nn w.drew := ⟨H.c.of_block rfl, H.s.drew, H.r.of_block rfl, below_drew H.bel, H.far⟩
theorem TGM.row (H : TGM w0 gc k nn w) {g : Nat} (hg : w0.heap.size + 1 < g) (cs : Array Value) : TGM w0 gc k nn (w.setRow g cs) :=
 have := H.far
 ⟨Blk.rowFar H.c (by omega) _, Blk.rowFar H.s (by omega) _, Blk.rowFar H.r (by omega) _, below_setRow H.bel (by omega) _, H.far⟩
theorem TGM.lt (H : TGM w0 gc k nn w) : w0.heap.size + 1 < w.heap.size := Blk.lt H.r
end
/-- With the factor, and what has come so far. -/
structure TGY (w0 : World) (gc g7 g8 : Nat) (k nn : List Nat) (h0 h1 y0 y1 : Nat) (w : World) : Prop where
 m : TGM w0 gc k nn w
 f : PB w g7 h0 h1
 y : PB w g8 y0 y1
 f7 : w0.heap.size + 1 < g7
 f8 : g7 < g8
section
variable {w0 w w1 : World} {gc g7 g8 : Nat} {k nn : List Nat} {h0 h1 y0 y1 : Nat}
theorem TGY.below (H : TGY w0 gc g7 g8 k nn h0 h1 y0 y1 w) (c : Below w.heap.size w w1) : TGY w0 gc g7 g8 k nn h0 h1 y0 y1 w1 := ⟨H.m.below c, Blk.below' H.f c, Blk.below' H.y c, H.f7, H.f8⟩
theorem TGY.drew (H : TGY w0 gc g7 g8 k nn h0 h1 y0 y1 w) : TGY w0 gc g7 g8 k nn h0 h1 y0 y1 w.drew := ⟨H.m.drew, H.f.drew, H.y.drew, H.f7, H.f8⟩
theorem TGY.setY (H : TGY w0 gc g7 g8 k nn h0 h1 y0 y1 w) (z0 z1 : Nat) : TGY w0 gc g7 g8 k nn h0 h1 z0 z1 (w.setRow g8 (pc z0 z1)) :=
 have := H.f7
 have := H.f8
 ⟨H.m.row (by omega) _, Blk.rowFar H.f (by omega) _, Blk.row H.y _, H.f7, H.f8⟩
end
set_option maxHeartbeats 8000000 in
set_option maxRecDepth 100000 in
theorem tag_w (gc : Nat) (k nn D ct : List Nat) (lk : k.length = 16) (ln : nn.length = 12) (bk : ∀ x ∈ k, x < 256) (bn : ∀ x ∈ nn, x < 256) (bD : ∀ x ∈ D, x < 256) (bc : ∀ x ∈ ct, x < 256) (nd nc cd cc : Nat) (hnd : nd ≤ 2000) (hnc : nc ≤ 2000) (pd pq : Option Addr) (w : World)
  (hC : CI w gc (KM boxL k 11) boxL) (hD : SB w (.slice pd nd cd) D) (hc : SB w (.slice pq nc cc) ct) :
  Calls Tryd.prog 48 #[.agg (sv gc nn), .slice pd nd cd, .slice pq nc cc] w fun e w' => e = .returned (.agg (Iv .u8 (NI (tagL k nn D ct)))) ∧ Below w.heap.size w w' := by
 have eD := hD.len.1
 have eC := hc.len.1
 have hH := hK_lt bk
 have CE := Lib.hid (fun W h => ciph_any gc k (LB fun _ => 0) lk bk (LB_length _) (LB_bytes fun i _ => by decide) W h)
 rw [show encL boxL k (LB fun _ => 0) = LB (hK k) from (LB_of _ (encL_length _ _)).symm] at CE
 have CR := Lib.hid (fun W => read_w (hK k) hH W)
 have CS := fun v W h => sum_w (hK k) hH [D, ct] (fun l hl => by
  rcases List.mem_cons.1 hl with rfl | hl
  · exact bD
  · rw [List.mem_singleton.1 hl]; exact bc) (fun l hl => by
  rcases List.mem_cons.1 hl with rfl | hl
  · omega
  · rw [List.mem_singleton.1 hl]; omega) v (by simp) W h
 have hY := partF_lt hH [D, ct] 2
 rw [show [D, ct].length = 2 from rfl] at CS
 have CB1 := Lib.hid (fun W => bits_w pd nd cd (by omega) W)
 have CB2 := Lib.hid (fun W => bits_w pq nc cc (by omega) W)
 have bL : ∀ i, joinF (partF (hK k) [D, ct] 2) (lensL nd nc) 0 i < 256 := joinF_lt hY (lensL_bytes nd nc) 0
 have eJ : ∀ o, wB (joinF (partF (hK k) [D, ct] 2) (lensL nd nc) 0) o 8 = wB (partF (hK k) [D, ct] 2) o 8 ^^^ wB (fun i => (lensL nd nc).getD (16 * 0 + i) 0) o 8 := fun o => wB_xor hY (fun i => Bytes.getD (lensL_bytes nd nc) _) o 8
 have CP1 := fun W => plus_w (wB (partF (hK k) [D, ct] 2) 0 8) (wB (partF (hK k) [D, ct] 2) 8 8) (nd * 8) (nc * 8) (wB_lt8 hY 0) (wB_lt8 hY 8) (by omega) (by omega) W
 have e0 := eJ 0
 have e8 := eJ 8
 rw [lens_one nd nc (by omega)] at e0
 rw [lens_two nd nc (by omega)] at e8
 rw [← e0, ← e8] at CP1
 have CT := fun W => times_w (joinF (partF (hK k) [D, ct] 2) (lensL nd nc) 0) (hK k) bL hH W
 have eT : timesF (joinF (partF (hK k) [D, ct] 2) (lensL nd nc) 0) (hK k) = tagY k D ct := by
  unfold tagY
  rw [← eD, ← eC]
  conv => rhs; rw [show ∀ y h, hashL y h (lensL nd nc) = hashF y h (lensL nd nc) 1 from fun y h => by unfold hashL; rw [lensL_length]]
  rfl
 rw [eT] at CT
 have hT : ∀ i, tagY k D ct i < 256 := fun i => tagY_lt bk i
 have CM := fun W h => mask_w gc k nn lk ln bk bn 1 (by omega) W h
 have hE : ∀ i, (ecL k nn 1).getD i 0 < 256 := fun i => getD_lt (ecL_bytes bk bn (by omega)) i
 rw [show ecL k nn 1 = LB (fun i => (ecL k nn 1).getD i 0) from (LB_of _ (ecL_length _ _ _)).symm] at CM
 have CR2 := Lib.hid (fun W => read_w (fun i => (ecL k nn 1).getD i 0) hE W)
 have CP2 := fun W => plus_w (wB (tagY k D ct) 0 8) (wB (tagY k D ct) 8 8) (wB (fun i => (ecL k nn 1).getD i 0) 0 8) (wB (fun i => (ecL k nn 1).getD i 0) 8 8) (wB_lt8 hT 0) (wB_lt8 hT 8) (wB_lt8 hE 0) (wB_lt8 hE 8) W
 rw [← wB_xor hT hE, ← wB_xor hT hE] at CP2
 have CB := Lib.hid (fun W => block_w (fun i => tagY k D ct i ^^^ (ecL k nn 1).getD i 0) (fun i => xor_256 (hT i) (hE i)) W)
 rw [show tagL k nn D ct = LB (fun i => tagY k D ct i ^^^ (ecL k nn 1).getD i 0) from rfl]
 generalize (fun i => tagY k D ct i ^^^ (ecL k nn 1).getD i 0) = X at *
 generalize (fun i => (ecL k nn 1).getD i 0) = E at *
 generalize tagY k D ct = T at *
 generalize joinF (partF (hK k) [D, ct] 2) (lensL nd nc) 0 = J at *
 generalize partF (hK k) [D, ct] 2 = Y at *
 generalize hK k = F at *
 replace CP1 := Lib.hid CP1
 replace CT := Lib.hid CT
 replace CM := Lib.hid CM
 replace CP2 := Lib.hid CP2
 replace CS := Lib.hid CS
 clear hH hY bL eJ e0 e8 eT hT hE eD eC bD bc bk bn
 have hD0 := hD
 have hc0 := hc
 go_enter Tryd.func48, Tryd.ntmps48
 go_upto_region 1 with fail
 rename_i aK
 generalize hW : World.alloc (World.alloc w _) _ = W
 have hM : TGM w gc k nn W := ⟨hC.below (hW ▸ ((Below.refl w.heap.size w).alloc (Nat.le_refl _) _).alloc (by simp) _), hW ▸ (Blk.new w _ (sv gc nn)).alloc _, hW ▸ Blk.new' (by simp) _ (Iv .u8 (NI (LB fun _ => 0))), hW ▸ ((Below.refl w.heap.size w).alloc (Nat.le_refl _) _).alloc (by simp) _, hC.lt⟩
 clear hW hC hD hc
 have c0 := sv_zero hM.s
 have hm : ∀ w : World, (method 262 86 (.pointer (some ⟨gc, 0, none⟩)) "Encrypt").run Tryd.prog w = .ok (73, .pointer (some ⟨gc, 0, none⟩)) w := fun _ => by kernel_rfl
 go_wp2_with fail
 refine (CE.out _ hM.c).mono ?_
 rintro _ w1 ⟨rfl, b1⟩
 replace hM := hM.below b1
 clear b1 CE c0 hm
 go_wp2_with fail
 refine (CR.out _).mono ?_
 rintro _ w2 ⟨rfl, b2⟩
 replace hM := hM.below b2
 clear b2 CR
 go_upto_region 2 with (refine wpList_store_row rfl 119 _ _ rfl w2.heap.size (pc (wB F 0 8) (wB F 8 8)) rfl rfl 119 _ (Blk.new w2 119 (pc 0 0)) (info_pc _ _) rfl (pc_one _ _) ?_)
 change Code.wp _ _ _ _ (World.setRow (w2.alloc (.cells (pc 0 0) 119)) w2.heap.size _)
 have K7 : PB (World.setRow (w2.alloc (.cells (pc 0 0) 119)) w2.heap.size (pc (wB F 0 8) (wB F 8 8))) w2.heap.size (wB F 0 8) (wB F 8 8) := Blk.row (Blk.new w2 119 (pc 0 0)) _
 have f7 := hM.lt
 replace hM := (hM.below ((Below.refl w2.heap.size w2).alloc (Nat.le_refl _) (.cells (pc 0 0) 119))).row f7 (pc (wB F 0 8) (wB F 8 8))
 generalize World.setRow _ _ _ = w3 at *
 generalize w2.heap.size = g7 at *
 simp only [Act.put]
 go_upto_region 3 with (first | (refine wpList_load_row rfl 119 _ rfl g7 rfl 119 _ (0, 0) _ K7 Tryd.underlying119 rfl (info_pc _ _) ?_) | fail)
 have b4 := (Below.refl w3.heap.size w3).alloc (Nat.le_refl _) (.cells #[.slice pd nd cd, .slice pq nc cc] 24)
 refine (CS.out _ _ (SP.two (Blk.new w3 _ _) (hD0.below (hM.bel.trans (b4.mono hM.bel.size))) (hc0.below (hM.bel.trans (b4.mono hM.bel.size))))).mono ?_
 rintro _ w5 ⟨rfl, b5⟩
 replace b4 := b4.trans (b5.mono b4.size)
 replace hM := hM.below b4
 replace K7 : PB w5 g7 (wB F 0 8) (wB F 8 8) := Blk.below' K7 b4
 clear b4 b5 CS hD0 hc0
 go_upto_region 3 with (refine wpList_store_row rfl 119 _ _ rfl w5.heap.size (pc (wB Y 0 8) (wB Y 8 8)) rfl rfl 119 _ (Blk.new w5 119 (pc 0 0)) (info_pc _ _) rfl (pc_one _ _) ?_)
 change Code.wp _ _ _ _ (World.setRow (w5.alloc (.cells (pc 0 0) 119)) w5.heap.size _)
 have f8 := Blk.lt K7
 have hG : TGY w gc g7 w5.heap.size k nn (wB F 0 8) (wB F 8 8) (wB Y 0 8) (wB Y 8 8) (World.setRow (w5.alloc (.cells (pc 0 0) 119)) w5.heap.size (pc (wB Y 0 8) (wB Y 8 8))) :=
  ⟨(hM.below ((Below.refl w5.heap.size w5).alloc (Nat.le_refl _) (.cells (pc 0 0) 119))).row (by omega) _, Blk.rowFar (Blk.alloc K7 _) (by omega) _, Blk.row (Blk.new w5 119 (pc 0 0)) _, f7, f8⟩
 generalize World.setRow _ _ _ = w6 at *
 generalize w5.heap.size = g8 at *
 clear hM K7 f7 f8
 simp only [Act.put]
 rename_i aK
 refine wp_region_Z (S := TGY w gc g7 g8 k nn (wB F 0 8) (wB F 8 8) (wB Y 0 8) (wB Y 8 8)) 9 (by kernel_rfl) ?_
 replace hG := hG.drew
 generalize w6.drew = V at hG ⊢
 have hS := hG
 refine wpAnyZ_takeL 0 rfl (by kernel_rfl) (by kernel_rfl) (by kernel_rfl) (by kernel_rfl) (by kernel_rfl) (fun _ _ _ H => H) (show YieldsIf _ _ _ _ (Value.agg (pc (wB Y 0 8) (wB Y 8 8))) _ from yieldsIf_row_wanted rfl 119 _ rfl g8 rfl 119 _ _ (fun _ H => H.y) Tryd.underlying119 rfl (info_pc _ _)) hS ?_
 simp only [Act.put, List.setIfInBounds_toArray, List.set_cons_zero, List.set_cons_succ]
 refine wpAnyZ_takeL 1 rfl (by kernel_rfl) (by kernel_rfl) (by kernel_rfl) (by kernel_rfl) (by kernel_rfl) (fun _ _ _ H => H) (yieldsIf_move rfl _ rfl (.slice pd nd cd) rfl) hS ?_
 simp only [Act.put, List.setIfInBounds_toArray, List.set_cons_zero, List.set_cons_succ]
 refine wpAnyZ_takeL 3 rfl (by kernel_rfl) (by kernel_rfl) (by kernel_rfl) (by kernel_rfl) (by kernel_rfl) (fun _ _ _ H => H) (yieldsIf_move rfl _ rfl (.slice pq nc cc) rfl) hS ?_
 simp only [Act.put, List.setIfInBounds_toArray, List.set_cons_zero, List.set_cons_succ]
 refine wpAnyZ_takeL 7 rfl (by kernel_rfl) (by kernel_rfl) (by kernel_rfl) (by kernel_rfl) (by kernel_rfl) (fun _ _ _ H => H) (show YieldsIf _ _ _ _ (Value.agg (pc (wB F 0 8) (wB F 8 8))) _ from yieldsIf_row_wanted rfl 119 _ rfl g7 rfl 119 _ _ (fun _ H => H.f) Tryd.underlying119 rfl (info_pc _ _)) hS ?_
 simp only [Act.put, List.setIfInBounds_toArray, List.set_cons_zero, List.set_cons_succ]
 refine zstep 2 rfl rfl (by kernel_rfl) ?_
 unfold Oper.wp execOp
 go_simp
 refine (CB1.out _).mono ?_
 rintro _ w8 ⟨rfl, b8⟩
 replace hG := hG.below b8
 clear hS b8
 refine ⟨hG, ?_⟩
 have hS := hG
 refine zstep 4 rfl rfl (by kernel_rfl) ?_
 unfold Oper.wp execOp
 go_simp
 refine (CB2.out _).mono ?_
 rintro _ w9 ⟨rfl, b9⟩
 replace hG := hG.below b9
 clear hS b9
 refine ⟨hG, ?_⟩
 have hS := hG
 refine wpAnyZ_takeL 5 (v := .agg (pc (nd * 8) (nc * 8))) rfl (by kernel_rfl) (by kernel_rfl) (by kernel_rfl) (by kernel_rfl) (by kernel_rfl) (fun _ _ _ H => H) (Or.inl ⟨by rfl, fun w' hw' => by go_simp; rfl⟩) hS ?_
 simp only [Act.put, List.setIfInBounds_toArray, List.set_cons_zero, List.set_cons_succ]
 refine zstep 6 rfl rfl (by kernel_rfl) ?_
 unfold Oper.wp execOp
 go_simp
 refine (CP1.out _).mono ?_
 rintro _ w10 ⟨rfl, b10⟩
 replace hG := hG.below b10
 clear hS b10
 refine ⟨hG, ?_⟩
 have hS := hG
 refine zstep 8 rfl rfl (by kernel_rfl) ?_
 unfold Oper.wp execOp
 go_simp
 refine (CT.out _).mono ?_
 rintro _ w11 ⟨rfl, b11⟩
 replace hG := hG.below b11
 clear hS b11
 refine ⟨hG, ?_⟩
 have hS := hG
 refine zstep 9 rfl rfl (by kernel_rfl) ?_
 refine wp_store_row 119 _ _ rfl g8 (pc (wB T 0 8) (wB T 8 8)) rfl rfl 119 _ hG.y (info_pc _ _) rfl (pc_one _ _) ?_
 refine ⟨fun e => Bool.noConfusion ((e.symm.trans (show _ = true from rfl) : false = true)), ?_⟩
 refine wpAnyZ_done (by kernel_rfl) ?_ _
 replace hG := hG.setY (wB T 0 8) (wB T 8 8)
 clear hS
 generalize World.setRow _ _ _ = w7 at *
 simp only [Act.put]
 refine aK _ _ ?_
 clear aK
 go_upto_region 4 with fail
 rename_i aK
 refine wp_region_Z (S := TGY w gc g7 g8 k nn (wB F 0 8) (wB F 8 8) (wB T 0 8) (wB T 8 8)) 6 (by kernel_rfl) ?_
 replace hG := hG.drew
 generalize w7.drew = V at hG ⊢
 have hS := hG
 refine wpAnyZ_takeL 0 rfl (by kernel_rfl) (by kernel_rfl) (by kernel_rfl) (by kernel_rfl) (by kernel_rfl) (fun _ _ _ H => H) (show YieldsIf _ _ _ _ (Value.agg (pc (wB T 0 8) (wB T 8 8))) _ from yieldsIf_row_wanted rfl 119 _ rfl g8 rfl 119 _ _ (fun _ H => H.y) Tryd.underlying119 rfl (info_pc _ _)) hS ?_
 simp only [Act.put, List.setIfInBounds_toArray, List.set_cons_zero, List.set_cons_succ]
 refine wpAnyZ_takeL 1 rfl (by kernel_rfl) (by kernel_rfl) (by kernel_rfl) (by kernel_rfl) (by kernel_rfl) (fun _ _ _ H => H) (show YieldsIf _ _ _ _ (Value.agg (sv gc nn)) _ from yieldsIf_row_wanted rfl 91 _ rfl w.heap.size rfl 91 _ _ (fun _ H => H.m.s) Tryd.underlying91 rfl (info_sv gc nn ln)) hS ?_
 simp only [Act.put, List.setIfInBounds_toArray, List.set_cons_zero, List.set_cons_succ]
 refine zstep 2 rfl rfl (by kernel_rfl) ?_
 unfold Oper.wp execOp
 go_simp
 refine (CM.out _ hG.m.c).mono ?_
 rintro _ w12 ⟨rfl, b12⟩
 replace hG := hG.below b12
 clear hS b12
 refine ⟨hG, ?_⟩
 have hS := hG
 refine zstep 3 rfl rfl (by kernel_rfl) ?_
 unfold Oper.wp execOp
 go_simp
 refine (CR2.out _).mono ?_
 rintro _ w13 ⟨rfl, b13⟩
 replace hG := hG.below b13
 clear hS b13
 refine ⟨hG, ?_⟩
 have hS := hG
 refine zstep 4 rfl rfl (by kernel_rfl) ?_
 unfold Oper.wp execOp
 go_simp
 refine (CP2.out _).mono ?_
 rintro _ w14 ⟨rfl, b14⟩
 replace hG := hG.below b14
 clear hS b14
 refine ⟨hG, ?_⟩
 have hS := hG
 refine zstep 5 rfl rfl (by kernel_rfl) ?_
 unfold Oper.wp execOp
 go_simp
 refine (CB.out _).mono ?_
 rintro _ w15 ⟨rfl, b15⟩
 replace hG := hG.below b15
 clear hS b15
 refine ⟨hG, ?_⟩
 have hS := hG
 refine zstep 6 rfl rfl (by kernel_rfl) ?_
 refine wp_store_row 27 _ _ rfl (w.heap.size + 1) (Iv .u8 (NI (LB X))) rfl rfl 27 _ hG.m.r (info_bl _) (by rw [Iv_size, Iv_size, NI_length, NI_length, LB_length, LB_length]) (Iv_one _ _) ?_
 refine ⟨fun e => Bool.noConfusion ((e.symm.trans (show _ = true from rfl) : false = true)), ?_⟩
 refine wpAnyZ_done (by kernel_rfl) ?_ _
 refine aK _ _ ?_
 clear aK hS
 have RR := Blk.row hG.m.r (Iv .u8 (NI (LB X)))
 have BB := below_setRow hG.m.bel (g := w.heap.size + 1) (by omega) (Iv .u8 (NI (LB X)))
 generalize World.setRow _ _ _ = w20 at *
 clear hG
 simp only [Act.put]
 go_wp2
 exact bodyPost_ret (results_cell_row rfl _ _ _ 27 _ (0, 0) _ rfl RR Tryd.underlying27 rfl (info_bl _)) rfl ⟨rfl, BB⟩
end Go.Proofs.YtpihgljdbpnehaaDoor
namespace Go.Proofs.YtpihgljdbpnehaaDoor
open Go.RowKit
/-- What the program's Seal is asked to answer: new bytes, sealed. -/
def SealC : Prop := ∀ (k nn D b S : List Nat) (pd pb : Option Addr) (nd nb cd cb : Nat), k.length = 16 → nn.length = 12 → (∀ x ∈ k, x < 256) → (∀ x ∈ nn, x < 256) → (∀ x ∈ D, x < 256) → (∀ x ∈ b, x < 256) → nd ≤ 1000 → nb ≤ 1000 → S = sealL k nn D b →
 ∀ W, SB W (.slice pd nd cd) D → SB W (.slice pb nb cb) b → Calls Tryd.prog 27 #[.agg (Iv .u8 (NI k)), .agg (Iv .u8 (NI nn)), .slice pd nd cd, .slice pb nb cb] W fun e w' => ∃ v, e = .returned v ∧ OwL W.heap.size w' v S ∧ Below W.heap.size W w'
/-- What its Open is asked to answer: what was sealed so, in new memory, and true; else nothing, and false. -/
def OpenC : Prop := ∀ (k nn D s : List Nat) (o : Option (List Nat)) (pd ps : Option Addr) (nd ns cd cs : Nat), k.length = 16 → nn.length = 12 → (∀ x ∈ k, x < 256) → (∀ x ∈ nn, x < 256) → (∀ x ∈ D, x < 256) → (∀ x ∈ s, x < 256) → nd ≤ 1000 → ns ≤ 1000 → o = openL k nn D s →
 ∀ W, SB W (.slice pd nd cd) D → SB W (.slice ps ns cs) s → Calls Tryd.prog 39 #[.agg (Iv .u8 (NI k)), .agg (Iv .u8 (NI nn)), .slice pd nd cd, .slice ps ns cs] W fun e w' => ∃ v, e = .returned (.tuple #[v, .bool o.isSome]) ∧ OwL W.heap.size w' v (o.getD []) ∧ Below W.heap.size W w'
end Go.Proofs.YtpihgljdbpnehaaDoor
namespace Go.Proofs.YtpihgljdbpnehaaDoor
open Go.RowKit
/-- A sealer as it is made. -/
def zSL : Array Value := #[.nilIface, .int .u8 0, .int .u8 0, .int .u8 0, .int .u8 0, .int .u8 0, .int .u8 0, .int .u8 0, .int .u8 0, .int .u8 0, .int .u8 0, .int .u8 0, .int .u8 0]
theorem list12 (l : List Nat) (h : l.length = 12) : ∃ a b c d e f g h i j k m, l = [a, b, c, d, e, f, g, h, i, j, k, m] := by
 match l, h with
 | [a, b, c, d, e, f, g, h, i, j, k, m], _ => exact ⟨a, b, c, d, e, f, g, h, i, j, k, m, rfl⟩
theorem run_sealer (w : World) (gc : Nat) (nn : List Nat) (ln : nn.length = 12) : (Instr.build 91 #[(0, .iface 86 (.pointer (some ⟨gc, 0, none⟩))), (1, .agg (Iv .u8 (NI nn)))]).run Tryd.prog w = .ok (.agg (sv gc nn)) w := by
 obtain ⟨a, b, c, d, e, f, g, h, i, j, k, m, rfl⟩ := list12 nn ln
 kernel_rfl
theorem yieldsIf_sealer {ops : Array Oper} {S : World → Prop} {o : Oper} {a : Act} (hgd : Region.wanted o (yielded ops a.tmps) = true) (x y : Operand) (ho : o.op = .build 91 #[(0, x), (1, y)]) (gc : Nat) (nn : List Nat) (ln : nn.length = 12) (hx : a.eval x = .iface 86 (.pointer (some ⟨gc, 0, none⟩))) (hy : a.eval y = .agg (Iv .u8 (NI nn))) : YieldsIf Tryd.prog ops S o (.agg (sv gc nn)) a := by
 refine Or.inl ⟨hgd, fun w' _ => ?_⟩
 simp only [execOp, ho, List.map_toArray, List.map_cons, List.map_nil, hx, hy, Sem.run_bind, run_sealer w' gc nn ln, Result.andThen_ok, Sem.run_pure]
/-- What stands ahead of the sealer. -/
structure SL1 (w0 : World) (k nn : List Nat) (w : World) : Prop where
 k : Blk w w0.heap.size 27 (Iv .u8 (NI k))
 n : Blk w (w0.heap.size + 1) 28 (Iv .u8 (NI nn))
 bel : Below w0.heap.size w0 w
theorem SL1.below {w0 w w1 : World} {k nn : List Nat} (h : SL1 w0 k nn w) (b : Below w.heap.size w w1) : SL1 w0 k nn w1 := ⟨Blk.below' h.k b, Blk.below' h.n b, h.bel.trans (b.mono h.bel.size)⟩
theorem SL1.drew {w0 w : World} {k nn : List Nat} (h : SL1 w0 k nn w) : SL1 w0 k nn w.drew := ⟨h.k.drew, h.n.drew, below_drew h.bel⟩
/-- What stands in Seal and Open. -/
structure SLM (w0 : World) (gc gs : Nat) (k nn : List Nat) (w : World) : Prop where
 c : CI w gc (KM boxL k 11) boxL
 s : Blk w gs 91 (sv gc nn)
 bel : Below w0.heap.size w0 w
 fc : w0.heap.size ≤ gc
 fs : w0.heap.size ≤ gs
section
variable {w0 w w1 : World} {gc gs : Nat} {k nn : List Nat}
theorem SLM.below (h : SLM w0 gc gs k nn w) (b : Below w.heap.size w w1) : SLM w0 gc gs k nn w1 := ⟨h.c.below b, Blk.below' h.s b, h.bel.trans (b.mono h.bel.size), h.fc, h.fs⟩
theorem SLM.drew (h : SLM w0 gc gs k nn w) : SLM w0 gc gs k nn w.drew := ⟨h.c.of_block rfl, h.s.drew, below_drew h.bel, h.fc, h.fs⟩
theorem SLM.size (h : SLM w0 gc gs k nn w) : gc < w.heap.size ∧ gs < w.heap.size := ⟨h.c.lt, Blk.lt h.s⟩
/-- Behind what changes one row that is behind all of these. -/
theorem SLM.grown {g : Nat} (h : SLM w0 gc gs k nn w) (gr : w.grownBy w1 (some g)) (hc : gc < g) (hs : gs < g) : SLM w0 gc gs k nn w1 := by
 have := h.fc
 exact ⟨Blk.kept h.c gr (fun e => by have := Option.some.inj e; omega), Blk.kept h.s gr (fun e => by have := Option.some.inj e; omega), below_grown' h.bel gr (fun j e => by have := Option.some.inj e; omega) (by have := h.bel.size; omega), h.fc, h.fs⟩
end
theorem wp_make {o : Oper} {a : Act} {w : World} {K : Act → World → Prop} {Q : Exit → Act → World → Prop} (x y : Operand) (ho : o.op = .makeSlice 24 x y) (c : Nat) (hx : a.eval x = .int .i64 0) (hy : a.eval y = .int .i64 (c : Int)) (hc : c ≤ 100000)
  (B : Nat) (hB : B ≤ w.heap.size) (h : ∀ w', OwL B w' (.slice (some ⟨w.heap.size, 0, none⟩) 0 c) [] → w.grownBy w' none → w.heap.size < w'.heap.size → K (a.put o.dst (.slice (some ⟨w.heap.size, 0, none⟩) 0 c)) w') : o.wp Tryd.prog a w K Q := by
 obtain ⟨i, hi, hs, hy', hz⟩ := info_u8
 obtain ⟨w', hr, hO, hg⟩ := run_make_own (P := Tryd.prog) w B 24 5 i _ 1 Tryd.underlying24 hi hz hs .i64 .i64 c (by rw [hy']; omega) (by simp only [maxLen]; omega) hB
 unfold Oper.wp execOp
 simp only [ho, Sem.run_bind, hx, hy, hr, Result.andThen_ok, Sem.run_pure]
 refine h w' hO hg ?_
 exact (World.ownsRow.lt hO _ rfl).2
theorem below_none {w w1 : World} (g : w.grownBy w1 none) : Below w.heap.size w w1 := ⟨g.os, g.tape, g.output, g.size, fun i hi => g.block i hi (fun e => by cases e)⟩
theorem sb_block {w : World} {p : Option Addr} {n c : Nat} {l : List Nat} (h : SB w (.slice p n c) l) : l = [] ∨ ∀ a, p = some a → a.block < w.heap.size := by
 obtain ⟨q, d, e, _, h3⟩ := h
 simp only [Value.slice.injEq] at e
 obtain ⟨rfl, rfl, rfl⟩ := e
 rcases h3 with h3 | ⟨g, o, rfl, hb⟩
 · exact Or.inl h3
 ·
  refine Or.inr fun a e => ?_
  have e' := (Option.some.inj e).symm
  subst e'
  exact hb.blk
set_option maxHeartbeats 8000000 in
set_option maxRecDepth 100000 in
theorem seal_w (k nn D b : List Nat) (lk : k.length = 16) (ln : nn.length = 12) (bk : ∀ x ∈ k, x < 256) (bn : ∀ x ∈ nn, x < 256) (bD : ∀ x ∈ D, x < 256) (bb : ∀ x ∈ b, x < 256) (nd nb cd cb : Nat) (hnd : nd ≤ 1000) (hnb : nb ≤ 1000) (pd pb : Option Addr) (w : World)
  (hD : SB w (.slice pd nd cd) D) (hb : SB w (.slice pb nb cb) b) :
  Calls Tryd.prog 27 #[.agg (Iv .u8 (NI k)), .agg (Iv .u8 (NI nn)), .slice pd nd cd, .slice pb nb cb] w fun e w' => ∃ v, e = .returned v ∧ OwL w.heap.size w' v (sealL k nn D b) ∧ Below w.heap.size w w' := by
 have CN := Lib.hid (fun W => new_any k lk bk W)
 have eb := hb.len.1
 have EB := Lib.hid eb
 have HD := Lib.hid hD
 have HB := Lib.hid hb
 have HBL := Lib.hid (sb_block hb)
 clear hD hb eb
 go_enter Tryd.func27, Tryd.ntmps27
 go_upto_region 1 with fail
 generalize hW : World.alloc (World.alloc w _) _ = W
 have hM : SL1 w k nn W := ⟨hW ▸ (Blk.new w _ _).alloc _, hW ▸ Blk.new' (by simp) _ _, hW ▸ ((Below.refl w.heap.size w).alloc (Nat.le_refl _) _).alloc (by simp) _⟩
 clear hW
 rename_i aK
 refine wp_region_Z (S := SL1 w k nn) 6 (by kernel_rfl) ?_
 replace hM := hM.drew
 generalize W.drew = V at hM ⊢
 have hS := hM
 refine wpAnyZ_takeL 0 rfl (by kernel_rfl) (by kernel_rfl) (by kernel_rfl) (by kernel_rfl) (by kernel_rfl) (fun _ _ _ H => H) (show YieldsIf _ _ _ _ (Value.agg (Iv .u8 (NI k))) _ from yieldsIf_row_wanted rfl 27 _ rfl (w.heap.size) rfl 27 _ _ (fun _ H => H.k) Tryd.underlying27 rfl (info_b _ lk)) hS ?_
 simp only [Act.put, List.setIfInBounds_toArray, List.set_cons_zero, List.set_cons_succ]
 refine wpAnyZ_takeL 3 rfl (by kernel_rfl) (by kernel_rfl) (by kernel_rfl) (by kernel_rfl) (by kernel_rfl) (fun _ _ _ H => H) (show YieldsIf _ _ _ _ (Value.agg (Iv .u8 (NI nn))) _ from yieldsIf_row_wanted rfl 28 _ rfl (w.heap.size + 1) rfl 28 _ _ (fun _ H => H.n) Tryd.underlying28 rfl (info_12 _ ln)) hS ?_
 simp only [Act.put, List.setIfInBounds_toArray, List.set_cons_zero, List.set_cons_succ]
 refine wpAnyZ_jobsRL [(⟨1, 13⟩, .rel (fun v w' => ∃ g, v = .pointer (some ⟨g, 0, none⟩) ∧ CI w' g (KM boxL k 11) boxL ∧ w.heap.size ≤ g)), (⟨2, 14⟩, .rel (fun v w' => ∃ g, v = .iface 86 (.pointer (some ⟨g, 0, none⟩)) ∧ CI w' g (KM boxL k 11) boxL ∧ w.heap.size ≤ g)), (⟨4, 16⟩, .rel (fun v w' => ∃ g, v = .agg (sv g nn) ∧ CI w' g (KM boxL k 11) boxL ∧ w.heap.size ≤ g)), (⟨5, 9⟩, .rel (fun v w' => ∃ g, v = .pointer (some ⟨g, 0, none⟩) ∧ Blk w' g 91 zSL ∧ w.heap.size ≤ g))] 1 _ _ _ (by kernel_rfl) (fun _ _ _ _ _ h => h) (fun _ _ h hb => h.below hb) hS ?_ ?_ ?_
 ·
  intro j hj
  simp only [List.map_cons, List.map_nil, List.mem_cons, List.not_mem_nil, or_false] at hj
  rcases hj with rfl | rfl | rfl | rfl
  ·
   rintro v w1 w2 ⟨g, e, H, hg⟩ hb
   exact ⟨g, e, H.below hb, hg⟩
  ·
   rintro v w1 w2 ⟨g, e, H, hg⟩ hb
   exact ⟨g, e, H.below hb, hg⟩
  ·
   rintro v w1 w2 ⟨g, e, H, hg⟩ hb
   exact ⟨g, e, H.below hb, hg⟩
  ·
   rintro v w1 w2 ⟨g, e, H, hg⟩ hb
   exact ⟨g, e, Blk.below' H hb, hg⟩
 ·
  intro j hj
  simp only [List.map_cons, List.map_nil, List.mem_cons, List.not_mem_nil, or_false] at hj
  rcases hj with rfl | rfl | rfl | rfl
  ·
   refine jobR_frame [] (by kernel_rfl) ?_
   intro f W K hS' hp hK
   have hsz := hS'.bel.size
   simp only [putAll, List.foldr_nil, Act.put]
   try simp only [putAll, List.foldr_nil, Act.put, List.setIfInBounds_toArray, List.set_cons_zero, List.set_cons_succ] at hK
   unfold wpOp
   go_simp
   left
   refine (CN.out _).mono ?_
   rintro e v ⟨g, rfl, hg, hC, b⟩
   exact hK _ _ ⟨g, rfl, hC, by omega⟩ b
  ·
   refine jobR_frame [⟨1, 13⟩] (by kernel_rfl) ?_
   intro f W K hS' hp hK
   obtain ⟨g, e1, hC, hg⟩ : ∃ g, f 1 = .pointer (some ⟨g, 0, none⟩) ∧ CI W g (KM boxL k 11) boxL ∧ w.heap.size ≤ g := hp ⟨1, 13⟩ (by simp)
   simp only [putAll, List.foldr_cons, List.foldr_nil, Act.put, List.setIfInBounds_toArray, List.set_cons_zero, List.set_cons_succ, e1]
   try simp only [putAll, List.foldr_cons, List.foldr_nil, Act.put, List.setIfInBounds_toArray, List.set_cons_zero, List.set_cons_succ, e1] at hK
   refine YieldsIf.wpOp (S := fun _ => True) (v := .iface 86 (.pointer (some ⟨g, 0, none⟩))) rfl (Or.inl ⟨by rfl, fun w' hw' => by go_simp⟩) trivial ?_
   exact hK _ _ ⟨g, rfl, hC, hg⟩ (Below.refl _ _)
  ·
   refine jobR_frame [⟨2, 14⟩] (by kernel_rfl) ?_
   intro f W K hS' hp hK
   obtain ⟨g, e1, hC, hg⟩ : ∃ g, f 2 = .iface 86 (.pointer (some ⟨g, 0, none⟩)) ∧ CI W g (KM boxL k 11) boxL ∧ w.heap.size ≤ g := hp ⟨2, 14⟩ (by simp)
   simp only [putAll, List.foldr_cons, List.foldr_nil, Act.put, List.setIfInBounds_toArray, List.set_cons_zero, List.set_cons_succ, e1]
   try simp only [putAll, List.foldr_cons, List.foldr_nil, Act.put, List.setIfInBounds_toArray, List.set_cons_zero, List.set_cons_succ, e1] at hK
   refine YieldsIf.wpOp (S := fun _ => True) (v := .agg (sv g nn)) rfl (yieldsIf_sealer rfl _ _ rfl g nn ln rfl rfl) trivial ?_
   exact hK _ _ ⟨g, rfl, hC, hg⟩ (Below.refl _ _)
  ·
   refine jobR_frame [] (by kernel_rfl) ?_
   intro f W K hS' hp hK
   have hsz := hS'.bel.size
   simp only [putAll, List.foldr_nil, Act.put]
   try simp only [putAll, List.foldr_nil, Act.put, List.setIfInBounds_toArray, List.set_cons_zero, List.set_cons_succ] at hK
   exact job_alloc (S := fun _ => True) (j := ⟨5, 9⟩) 91 zSL _ _ rfl rfl rfl (fun W => by go_simp; rfl) W K trivial (fun v w' h b hb => by
    obtain ⟨g, e, H⟩ := h
    have := hb g (by rw [e]; rfl)
    exact hK _ _ ⟨g, e, H, by omega⟩ b)
 ·
  intro f W hS2 hB1 hR
  obtain ⟨gc, e4, hC, nc⟩ : ∃ g, f 4 = .agg (sv g nn) ∧ CI W g (KM boxL k 11) boxL ∧ w.heap.size ≤ g := hR ⟨4, 16⟩ (by simp)
  obtain ⟨gs, e5, A5, ns⟩ : ∃ g, f 5 = .pointer (some ⟨g, 0, none⟩) ∧ Blk W g 91 zSL ∧ w.heap.size ≤ g := hR ⟨5, 9⟩ (by simp)
  have ncs : gc ≠ gs := fun e => by
   have h1 : W.heap[gc]? = _ := hC
   have h2 : W.heap[gs]? = _ := A5
   rw [e, h2] at h1
   simp only [Option.some.injEq, Obj.cells.injEq] at h1
   exact absurd h1.2.1 (by decide)
  clear hR
  simp only [setAll, List.map_cons, List.map_nil, putAll, List.foldr_cons, List.foldr_nil, Act.put, List.setIfInBounds_toArray, List.set_cons_zero, List.set_cons_succ, e4, e5]
  clear e4 e5 hM
  generalize f 1 = f1
  generalize f 2 = f2
  refine zstep 6 rfl rfl (by kernel_rfl) ?_
  refine wp_store_row 91 _ _ rfl gs (sv gc nn) rfl rfl 91 _ A5 (info_sv gc nn ln) (by unfold sv; rw [Array.size_append, Iv_size, NI_length, ln]; rfl) (sv_one gc nn) ?_
  refine ⟨fun e => Bool.noConfusion ((e.symm.trans (show _ = true from rfl) : false = true)), ?_⟩
  refine wpAnyZ_done (by kernel_rfl) ?_ _
  refine aK _ _ ?_
  clear aK hS CN
  have hM : SLM w gc gs k nn (World.setRow W gs (sv gc nn)) := ⟨Blk.rowFar hC ncs _, Blk.row A5 _, below_setRow hS2.bel (by omega) _, by omega, by omega⟩
  clear hS2 hB1 hC A5 nc ns ncs
  generalize World.setRow _ _ _ = w2 at *
  simp only [Act.put]
  go_upto_region 2 with fail
  rename_i aK
  refine wp_region_S (S := SLM w gc gs k nn) (by kernel_rfl) ?_
  replace hM := hM.drew
  generalize hV2 : w2.drew = V2 at hM ⊢
  have hS := hM
  have sz := hM.size
  have hsz := hM.bel.size
  have a1 : IntKind.i64.wrap ((nb : Int) + 16) = ((nb + 16 : Nat) : Int) := by rw [IntKind.wrap_i64]; omega
  refine wpAnyS_takeL 0 rfl (by kernel_rfl) (by kernel_rfl) (by kernel_rfl) (fun _ _ _ H => H) (show YieldsIf _ _ _ _ (Value.agg (sv gc nn)) _ from yieldsIf_row_wanted rfl 91 _ rfl (gs) rfl 91 _ _ (fun _ H => H.s) Tryd.underlying91 rfl (info_sv gc nn ln)) hS ?_
  simp only [Act.put, List.setIfInBounds_toArray, List.set_cons_zero, List.set_cons_succ]
  refine wpAnyS_takeL 1 rfl (by kernel_rfl) (by kernel_rfl) (by kernel_rfl) (fun _ _ _ H => H) (yieldsIf_move rfl _ rfl (.slice pb nb cb) rfl) hS ?_
  simp only [Act.put, List.setIfInBounds_toArray, List.set_cons_zero, List.set_cons_succ]
  refine wpAnyS_takeL 2 (v := .int .i64 (nb : Int)) rfl (by kernel_rfl) (by kernel_rfl) (by kernel_rfl) (fun _ _ _ H => H) (Or.inl ⟨by rfl, fun w' hw' => by go_simp⟩) hS ?_
  simp only [Act.put, List.setIfInBounds_toArray, List.set_cons_zero, List.set_cons_succ]
  refine wpAnyS_takeL 3 (v := .int .i64 ((nb + 16 : Nat) : Int)) rfl (by kernel_rfl) (by kernel_rfl) (by kernel_rfl) (fun _ _ _ H => H) (Or.inl ⟨by rfl, fun w' hw' => by go_simp⟩) hS ?_
  simp only [Act.put, List.setIfInBounds_toArray, List.set_cons_zero, List.set_cons_succ]
  refine wpAnyS_takeL 5 rfl (by kernel_rfl) (by kernel_rfl) (by kernel_rfl) (fun _ _ _ H => H) (yieldsIf_move rfl _ rfl (.slice pb nb cb) rfl) hS ?_
  simp only [Act.put, List.setIfInBounds_toArray, List.set_cons_zero, List.set_cons_succ]
  refine sstep 4 rfl rfl (by kernel_rfl) ?_
  refine wp_make _ _ rfl (nb + 16) rfl rfl (by omega) w.heap.size (by omega) ?_
  intro w3 hO hg hlt
  replace hM := hM.below (below_none hg)
  clear hS hg
  refine ⟨hM, ?_⟩
  simp only [Act.put, List.setIfInBounds_toArray, List.set_cons_zero, List.set_cons_succ]
  generalize V2.heap.size = G at *
  refine sstep 6 rfl rfl (by kernel_rfl) ?_
  unfold Oper.wp execOp
  go_simp
  refine (masked_w w.heap.size gc k nn b [] lk ln bk bn bb nb (by omega) (by simp) _ (some ⟨G, 0, none⟩) pb 0 (nb + 16) cb rfl w3 hM.c hO (by omega) (HB.out.below hM.bel) (fun e => by have := Option.some.inj e; dsimp only at this; omega) (HBL.out.imp id fun hv a e => by
   have := hv a e
   exact ⟨by omega, fun e' => by have := Option.some.inj e'; dsimp only at this; omega⟩)).mono ?_
  rintro _ w4 ⟨v', rfl, hO', gr, own⟩
  replace hM := hM.grown (g := G) gr (by omega) (by omega)
  clear hO
  refine ⟨hM, ?_⟩
  try simp only [List.nil_append] at hO'
  refine wpAnyS_takeL 7 rfl (by kernel_rfl) (by kernel_rfl) (by kernel_rfl) (fun _ _ _ H => H) (yieldsIf_assign rfl _ rfl v' rfl) hM ?_
  simp only [Act.put, List.setIfInBounds_toArray, List.set_cons_zero, List.set_cons_succ]
  refine wpAnyS_done (by kernel_rfl) ?_ _
  refine aK _ _ ?_
  clear aK a1
  have oB : ∀ j, v'.ownBlock = some j → gc < j ∧ gs < j := fun j hj => by
   rcases own with h | ⟨q, h, hq⟩
   ·
    rw [hj] at h
    have := Option.some.inj h
    dsimp only at this
    omega
   ·
    rw [hj] at h
    have := Option.some.inj h
    omega
  obtain ⟨pv, cv, hv⟩ := hO'.shape
  have lX : (xorS k nn b).length = nb := by rw [xorS_length, EB.out]
  rw [lX] at hv
  subst hv
  have CT := Lib.hid (fun W h1 h2 h3 => tag_w gc k nn D (xorS k nn b) lk ln bk bn bD (xorS_bytes bk bn bb (by rw [← EB.out]; omega)) nd nb cd cv (by omega) (by omega) pd pv W h1 h2 h3)
  have bT := tagL_bytes (beside := D) (ct := xorS k nn b) bk bn
  have lT := tagL_length k nn D (xorS k nn b)
  have eSL : sealL k nn D b = xorS k nn b ++ tagL k nn D (xorS k nn b) := rfl
  have ES := Lib.hid eSL
  clear eSL own gr hlt hV2 EB
  generalize tagL k nn D (xorS k nn b) = T at *
  generalize xorS k nn b = X at *
  clear bk bn bb bD
  go_upto_region 3 with fail
  rename_i aK
  go_wp2_with (refine wpList_load_row rfl 91 _ rfl gs rfl 91 _ (0, 0) _ hM.s Tryd.underlying91 rfl (info_sv gc nn ln) ?_)
  refine (CT.out _ hM.c (HD.out.below hM.bel) hO'.sb).mono ?_
  rintro _ w5 ⟨rfl, b5⟩
  replace hM := hM.below b5
  replace hO' := hO'.below b5
  clear b5 CT
  go_upto_region 4 with (refine wpList_store_row rfl 27 _ _ rfl w5.heap.size (Iv .u8 (NI T)) rfl rfl 27 _ (Blk.new w5 27 (Iv .u8 (NI (LB fun _ => 0)))) (info_b _ lT) (by rw [Iv_size, Iv_size, NI_length, NI_length, LB_length, lT]) (Iv_one _ _) ?_)
  change Code.wp _ _ _ _ (World.setRow (w5.alloc (.cells (Iv .u8 (NI (LB fun _ => 0))) 27)) w5.heap.size _)
  rename_i aK
  have B6 : Below w5.heap.size w5 (World.setRow (w5.alloc (.cells (Iv .u8 (NI (LB fun _ => 0))) 27)) w5.heap.size (Iv .u8 (NI T))) := below_setRow ((Below.refl w5.heap.size w5).alloc (Nat.le_refl _) _) (Nat.le_refl _) _
  have A6 : BA (World.setRow (w5.alloc (.cells (Iv .u8 (NI (LB fun _ => 0))) 27)) w5.heap.size (Iv .u8 (NI T))) w5.heap.size 0 T := BA.of_blk (Blk.row (Blk.new w5 27 (Iv .u8 (NI (LB fun _ => 0)))) _)
  replace hO' := hO'.below B6
  have bel := hM.bel.trans (B6.mono hM.bel.size)
  clear hM B6
  generalize World.setRow _ _ _ = W6 at *
  generalize w5.heap.size = g11 at *
  obtain ⟨v7, w7, hr, hO7, gr7, _⟩ := append_ba w.heap.size W6 24 _ X T hO' g11 0 16 A6 (by omega) bel.size
  rw [lT] at hr
  have BB := below_grown' bel gr7 (fun j e => (hO'.lt j e).1) bel.size
  clear A6 bel gr7
  simp only [Act.put]
  refine wp_region_seq ?_
  refine smv (.slice pv nb cv) rfl rfl rfl ?_
  simp only [Act.put, List.setIfInBounds_toArray, List.set_cons_zero, List.set_cons_succ]
  refine svl (.slice (some ⟨g11, 0, none⟩) 16 16) (.inl ⟨by rfl, fun w' _ => by go_simp⟩) ?_
  simp only [Act.put, List.setIfInBounds_toArray, List.set_cons_zero, List.set_cons_succ]
  refine wpSeq_wp rfl (wp_append_run _ _ _ _ rfl _ _ rfl rfl v7 w7 hr ?_)
  simp only [Act.put, List.setIfInBounds_toArray, List.set_cons_zero, List.set_cons_succ]
  refine wpSeq_yield (S := fun _ => True) (yieldsIf_assign rfl _ rfl v7 rfl) trivial ?_
  refine wpSeq_nil ?_
  simp only [Act.put, List.setIfInBounds_toArray, List.set_cons_zero, List.set_cons_succ]
  refine aK _ _ ?_
  clear aK hr hO'
  go_wp2
  go_ret
  exact ⟨v7, rfl, by rw [ES.out]; exact hO7, BB⟩
end Go.Proofs.YtpihgljdbpnehaaDoor
