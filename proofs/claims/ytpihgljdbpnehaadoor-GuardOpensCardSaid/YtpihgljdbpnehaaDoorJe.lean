/- The law GuardOpens (printed by gen13/je.py). -/
import Derived.Test.YtpihgljdbpnehaaDoorNf0Qa
import Derived.Test.YtpihgljdbpnehaaDoorNk
namespace Go.Proofs.YtpihgljdbpnehaaDoor
open Go.RowKit
theorem OwL.pos {B : Nat} {w : World} {v : Value} {l : List Nat} (h : OwL B w v l) (hl : 0 < l.length) : ∃ g c, v = .slice (some ⟨g, 0, none⟩) l.length c ∧ B ≤ g ∧ g < w.heap.size := by
 rcases h.row with ⟨_, rfl⟩ | ⟨g, c, e, hg, _, _, A, _⟩
 · cases hl
 · exact ⟨g, c, e, hg, A.blk⟩
/-- What stands while the law is walked. -/
structure ML (W : World) (cs oc hc kc : Array Value) (gh gk : Nat) (w : World) : Prop where
 cas : Blk w W.heap.size 40 cs
 oth : Blk w (W.heap.size + 1) 23 oc
 hd : Blk w gh 42 hc
 ky : Blk w gk 30 kc
 bel : Below W.heap.size W w
theorem ML.step {W w w' : World} {cs oc hc kc : Array Value} {gh gk : Nat} (h : ML W cs oc hc kc gh gk w) (b : Below w.heap.size w w') : ML W cs oc hc kc gh gk w' := ⟨h.cas.below' b, h.oth.below' b, h.hd.below' b, h.ky.below' b, h.bel.trans (b.mono h.bel.size)⟩
theorem sealG_pos (K N Mk : List Nat) (sp : Nat) (hs : sp ≤ 2) (to fr : List Nat) (ht : to.length = 8) (hf : fr.length = 8) (pn acked : Nat) (b : List Nat) (hp : pn < 4611686018427387904) (ha : acked ≤ pn) (hd : pn - acked < 70000) (hb : b.length ≤ 1000) : (sealG K N Mk sp to fr pn acked b).1 = 0 ∧ 0 < (sealG K N Mk sp to fr pn acked b).2.length := by
 have h := open_sealG K N Mk sp hs to fr ht hf pn acked pn b [] hp ha (Nat.le_refl _) hd hb
 refine ⟨h.1, ?_⟩
 rcases Nat.eq_zero_or_pos (sealG K N Mk sp to fr pn acked b).2.length with e | e
 ·
  exfalso
  have h2 := h.2
  rw [e] at h2
  unfold openG at h2
  rw [if_pos (Or.inr (Or.inr (Or.inl (by split; decide; split <;> decide))))] at h2
  cases h2
 · exact e
theorem set_bytes8 {l : List Nat} (h : Bytes l) (i y : Nat) (hy : y < 256) : Bytes (l.set i y) := fun x hx => by
 rcases List.mem_or_eq_of_mem_set hx with h1 | h1
 · exact h x h1
 · omega
set_option maxHeartbeats 32000000 in
set_option maxRecDepth 100000 in
theorem gopens_c (OC : OfC) (FC : FirstC) (SC : GSealC) (PC : GOpenC) (s to fr bb : List Nat) (sp : Int) (pn ac : Nat) (r : Bool) (vt vf vb : Value) (W : World) (ls : s.length = 32) (bs : Bytes s) (ws : i64_ok sp) (bt : Bytes to) (bf : Bytes fr) (b3 : Bytes bb) (hp : pn < 18446744073709551616) (ha : ac < 18446744073709551616) (h1 : SB W vt to) (h2 : SB W vf fr) (h3 : SB W vb bb) (o2 : List Nat) (bo : List Nat) (vo : Value) (at_ en bt_ : Int) (nx wh : Nat) (lo2 : o2.length = 32) (bo2 : Bytes o2) (bbo : Bytes bo) (wat : i64_ok at_) (wen : i64_ok en) (wbt : i64_ok bt_) (hnx : nx < 18446744073709551616) (hwh : wh < 256) (h4 : SB W vo bo) (T : Tab W cuT) (Q : Sq W sqT) :
  Calls Tryd.prog 6 #[.agg (csA s (csT sp vt vf pn ac r vb)), .agg (Iv .u8 (NI o2)), vo, .int .i64 at_, .int .i64 en, .int .i64 bt_, .int .u64 (nx : Int), .int .u8 (wh : Int)] W fun e w' => e = .returned (.bool true) ∧ Below W.heap.size W w' := by
 obtain ⟨p4, c4, rfl⟩ := h4.shape
 obtain ⟨m4, hm4⟩ : ∃ k, bo.length = k := ⟨_, rfl⟩
 rw [hm4] at h4 ⊢
 have HL4 := Lib.hid hm4
 have H4 := Lib.hid h4
 have B4 := Lib.hid bbo
 have OCO := Lib.hid (fun w (h : Below W.heap.size W w) => OC o2 lo2 bo2 w (T.below h) (Q.below h))
 obtain ⟨OCV, hOCV⟩ : ∃ V, Iv .u8 (NI o2) = V := ⟨_, rfl⟩
 rw [hOCV] at OCO ⊢
 have osz : (Tryd.prog.info? 23).map (·.size) = some OCV.size := by rw [← hOCV, Iv_size, NI_length, lo2]; exact info_key32
 have WI := Lib.hid (And.intro wat (And.intro wen (And.intro wbt (And.intro hnx hwh))))
 clear hm4 h4 bbo hOCV lo2 bo2 wat wen wbt hnx hwh
 have AW := Lib.hid (fun w (h : Below W.heap.size W w) => gawake_c OC FC w (T.below h) (Q.below h))
 have OCC := Lib.hid (fun w (h : Below W.heap.size W w) => OC s ls bs w (T.below h) (Q.below h))
 have LCC := Lib.hid (fun w (h : Below W.heap.size W w) => clong_c s to fr bb sp pn ac r vt vf vb w ls (h1.below h) (h2.below h) (h3.below h))
 have HCC := Lib.hid (fun w (h : Below W.heap.size W w) (hm : to.length ≤ 50) (hn : fr.length ≤ 50) => chead_c s to fr sp pn ac true vt vf vb w ls hm hn hp ha (h1.below h) (h2.below h))
 obtain ⟨p3, c3, rfl⟩ := h3.shape
 obtain ⟨k3, hk3⟩ : ∃ k, bb.length = k := ⟨_, rfl⟩
 rw [hk3] at h3 LCC HCC ⊢
 have HL3 := Lib.hid hk3
 have L32 := Lib.hid ls
 have cz := fun (t : Array Value) (h : t.size = 7) => info_csz ls t h
 have BT := Lib.hid (And.intro bt bf)
 have WS := Lib.hid (And.intro ws (And.intro hp ha))
 have H3 := Lib.hid h3
 have B3 := Lib.hid b3
 clear T Q ls bs bt bf hk3 ws hp ha h1 h2 h3 b3 OC FC
 obtain ⟨CS, hCS⟩ : ∃ CS, csA s (csT sp vt vf pn ac r (.slice p3 k3 c3)) = CS := ⟨_, rfl⟩
 rw [hCS] at LCC ⊢
 have HCS := Lib.hid hCS
 have csz : (Tryd.prog.info? 40).map (·.size) = some CS.size := by rw [← hCS]; exact cz _ rfl
 clear hCS
 go_enter Tryd.func6, Tryd.ntmps6
 go_upto_region 0 with fail
 rename_i aK
 refine wp_region_seq ?_
 refine wpSeq_wp rfl ?_
 unfold Oper.wp execOp
 go_simp
 refine wpSeq_wp rfl ?_
 unfold Oper.wp execOp
 go_simp
 refine sas (.bool false) rfl rfl rfl ?_
 simp only [AP]
 refine wpSeq_nil ?_
 refine aK _ _ ?_
 clear aK
 have F0 := two_alloc W 40 23 CS OCV
 generalize World.alloc (World.alloc W _) _ = w1 at *
 obtain ⟨K, KO2, b⟩ := F0
 go_upto_region 1 with fail
 rename_i aK
 refine wp_region_seq ?_
 refine wpSeq_wp rfl ?_
 unfold Oper.wp execOp
 go_simp
 refine (AW.out w1 b).mono ?_
 rintro _ w2 ⟨rfl, b2⟩
 replace K := K.below' b2
 replace KO2 := KO2.below' b2
 replace b := b.trans (b2.mono b.size)
 clear b2 AW
 go_simp
 refine svl (.bool false) (.inl ⟨by rfl, fun w' _ => by go_simp⟩) ?_
 simp only [AP]
 refine wpSeq_nil ?_
 refine (by assumption : ∀ (a : Act) (w : World), _ → _) _ _ ?_
 by_cases q1 : 50 < to.length ∨ 50 < fr.length ∨ 120 < k3
 ·
  rw [decide_eq_true q1] at LCC
  go_upto_region 3 with fail
  rename_i aK
  refine wp_region_seq ?_
  refine wpSeq_yield (S := fun w' => w' = w2) (show YieldsIf _ _ _ _ (.agg CS) _ from yieldsIf_row_wanted (S := fun w' => w' = w2) rfl 40 _ rfl W.heap.size rfl 40 _ _ (fun _ h => h ▸ K) Tryd.underlying40 rfl csz) rfl ?_
  simp only [AP]
  refine wpSeq_wp rfl ?_
  unfold Oper.wp execOp
  go_simp
  refine (LCC.out w2 b).mono ?_
  rintro _ w3 ⟨rfl, bz⟩
  replace K := K.below' bz
  replace KO2 := KO2.below' bz
  replace b := b.trans (bz.mono b.size)
  clear bz LCC
  go_simp
  refine smv (.bool true) rfl rfl rfl ?_
  simp only [AP]
  refine wpSeq_yield (S := fun _ => True) (yieldsIf_off rfl) trivial ?_
  simp only [AP]
  refine wpSeq_yield (S := fun _ => True) (yieldsIf_off rfl) trivial ?_
  simp only [AP]
  refine wpSeq_yield (S := fun _ => True) (yieldsIf_off rfl) trivial ?_
  simp only [AP]
  refine wpSeq_yield (S := fun _ => True) (yieldsIf_pick rfl _ _ _ rfl true rfl (.bool true) rfl) trivial ?_
  simp only [AP]
  refine wpSeq_nil ?_
  refine (by assumption : ∀ (a : Act) (w : World), _ → _) _ _ ?_
  go_upto_region 4 with fail
  rename_i aK
  refine wp_region_seq ?_
  refine sas (.bool true) rfl rfl rfl ?_
  simp only [AP]
  refine wpSeq_nil ?_
  refine (by assumption : ∀ (a : Act) (w : World), _ → _) _ _ ?_
  go_wp2
  go_ret
  exact ⟨rfl, b⟩
 rw [decide_eq_false q1] at LCC
 by_cases q2 : 150 < m4
 ·
  skip
  go_upto_region 3 with fail
  rename_i aK
  refine wp_region_seq ?_
  refine wpSeq_yield (S := fun w' => w' = w2) (show YieldsIf _ _ _ _ (.agg CS) _ from yieldsIf_row_wanted (S := fun w' => w' = w2) rfl 40 _ rfl W.heap.size rfl 40 _ _ (fun _ h => h ▸ K) Tryd.underlying40 rfl csz) rfl ?_
  simp only [AP]
  refine wpSeq_wp rfl ?_
  unfold Oper.wp execOp
  go_simp
  refine (LCC.out w2 b).mono ?_
  rintro _ w3 ⟨rfl, bz⟩
  replace K := K.below' bz
  replace KO2 := KO2.below' bz
  replace b := b.trans (bz.mono b.size)
  clear bz LCC
  go_simp
  refine smv (.bool false) rfl rfl rfl ?_
  simp only [AP]
  refine smv (.slice p4 m4 c4) rfl rfl rfl ?_
  simp only [AP]
  refine svl (.int .i64 (m4 : Int)) (.inl ⟨by rfl, fun w' _ => by go_simp⟩) ?_
  simp only [AP]
  refine svl (.bool true) (.inl ⟨by rfl, fun w' _ => by (go_simp; try omega)⟩) ?_
  simp only [AP]
  refine wpSeq_yield (S := fun _ => True) (yieldsIf_pick rfl _ _ _ rfl false rfl (.bool true) rfl) trivial ?_
  simp only [AP]
  refine wpSeq_nil ?_
  refine (by assumption : ∀ (a : Act) (w : World), _ → _) _ _ ?_
  go_upto_region 4 with fail
  rename_i aK
  refine wp_region_seq ?_
  refine sas (.bool true) rfl rfl rfl ?_
  simp only [AP]
  refine wpSeq_nil ?_
  refine (by assumption : ∀ (a : Act) (w : World), _ → _) _ _ ?_
  go_wp2
  go_ret
  exact ⟨rfl, b⟩
 go_upto_region 3 with fail
 rename_i aK
 refine wp_region_seq ?_
 refine wpSeq_yield (S := fun w' => w' = w2) (show YieldsIf _ _ _ _ (.agg CS) _ from yieldsIf_row_wanted (S := fun w' => w' = w2) rfl 40 _ rfl W.heap.size rfl 40 _ _ (fun _ h => h ▸ K) Tryd.underlying40 rfl csz) rfl ?_
 simp only [AP]
 refine wpSeq_wp rfl ?_
 unfold Oper.wp execOp
 go_simp
 refine (LCC.out w2 b).mono ?_
 rintro _ w3 ⟨rfl, bz⟩
 replace K := K.below' bz
 replace KO2 := KO2.below' bz
 replace b := b.trans (bz.mono b.size)
 clear bz LCC
 go_simp
 refine smv (.bool false) rfl rfl rfl ?_
 simp only [AP]
 refine smv (.slice p4 m4 c4) rfl rfl rfl ?_
 simp only [AP]
 refine svl (.int .i64 (m4 : Int)) (.inl ⟨by rfl, fun w' _ => by go_simp⟩) ?_
 simp only [AP]
 refine svl (.bool false) (.inl ⟨by rfl, fun w' _ => by (go_simp; try omega)⟩) ?_
 simp only [AP]
 refine wpSeq_yield (S := fun _ => True) (yieldsIf_pick rfl _ _ _ rfl false rfl (.bool false) rfl) trivial ?_
 simp only [AP]
 refine wpSeq_nil ?_
 refine (by assumption : ∀ (a : Act) (w : World), _ → _) _ _ ?_
 have HQ := Lib.hid (show to.length ≤ 50 ∧ fr.length ≤ 50 ∧ k3 ≤ 120 ∧ m4 ≤ 150 by omega)
 clear q1 q2
 obtain ⟨q, to8, fr8, p, a, hC, q2, lt8, lf8, bt8, bf8, p62, ap, ad⟩ := caseH_right sp to fr pn ac BT.out.1 BT.out.2
 replace HCC := Lib.hid (fun w (h : Below W.heap.size W w) => show Calls Tryd.prog 15 #[.agg (csA s (csT sp vt vf pn ac true (.slice p3 k3 c3)))] w fun e w' => ∃ vt vf, e = .returned (.tuple #[.agg #[.int .i64 (q : Int), vt, vf], .int .u64 (p : Int), .int .u64 (a : Int)]) ∧ SB w' vt to8 ∧ SB w' vf fr8 ∧ Below w.heap.size w w' by
  have := HCC.out w h HQ.out.1 HQ.out.2.1
  rw [hC] at this
  exact this)
 clear hC
 have KE := fun (o2 : List Nat) => keysG_size o2
 have KU := fun (o2 : List Nat) => u8s_one (keysG o2)
 obtain ⟨Kk, hKk⟩ : ∃ k, keyG s = k := ⟨_, rfl⟩
 obtain ⟨Nn, hNn⟩ : ∃ k, nonG s = k := ⟨_, rfl⟩
 obtain ⟨Mm, hMm⟩ : ∃ k, masG s = k := ⟨_, rfl⟩
 have LN := Lib.hid (show (Kk.length = 16 ∧ Nn.length = 12 ∧ Mm.length = 16) ∧ Bytes Kk ∧ Bytes Nn ∧ Bytes Mm by
  rw [← hKk, ← hNn, ← hMm]
  exact ⟨⟨keyG_length s, nonG_length s, masG_length s⟩, keyG_bytes s, nonG_bytes s, masG_bytes s⟩)
 have hks : keysG s = Kk ++ (Nn ++ Mm) := by rw [← hKk, ← hNn, ← hMm]; rfl
 have KZ0 := keysG_size s
 have KO0 := u8s_one (keysG s)
 rw [hks] at OCC KZ0 KO0
 clear hks hKk hNn hMm
 obtain ⟨KC, hKC⟩ : ∃ KC, Iv .u8 (NI (Kk ++ (Nn ++ Mm))) = KC := ⟨_, rfl⟩
 rw [hKC] at OCC KZ0 KO0
 have HK := Lib.hid hKC
 have KZ := Lib.hid KZ0
 have KO := Lib.hid KO0
 clear hKC KZ0 KO0
 obtain ⟨Kk2, hKk⟩ : ∃ k, keyG o2 = k := ⟨_, rfl⟩
 obtain ⟨Nn2, hNn⟩ : ∃ k, nonG o2 = k := ⟨_, rfl⟩
 obtain ⟨Mm2, hMm⟩ : ∃ k, masG o2 = k := ⟨_, rfl⟩
 have LN2 := Lib.hid (show (Kk2.length = 16 ∧ Nn2.length = 12 ∧ Mm2.length = 16) ∧ Bytes Kk2 ∧ Bytes Nn2 ∧ Bytes Mm2 by
  rw [← hKk, ← hNn, ← hMm]
  exact ⟨⟨keyG_length o2, nonG_length o2, masG_length o2⟩, keyG_bytes o2, nonG_bytes o2, masG_bytes o2⟩)
 have hks : keysG o2 = Kk2 ++ (Nn2 ++ Mm2) := by rw [← hKk, ← hNn, ← hMm]; rfl
 have KZ0 := KE o2
 have KO0 := KU o2
 rw [hks] at OCO KZ0 KO0
 clear hks hKk hNn hMm KE KU
 obtain ⟨KC2, hKC⟩ : ∃ KC, Iv .u8 (NI (Kk2 ++ (Nn2 ++ Mm2))) = KC := ⟨_, rfl⟩
 rw [hKC] at OCO KZ0 KO0
 have HK2 := Lib.hid hKC
 have KZ2 := Lib.hid KZ0
 have KOO2 := Lib.hid KO0
 clear hKC KZ0 KO0
 have SGM := sealG_small LN.out.2.1 LN.out.2.2.1 LN.out.2.2.2 (q : Int) bt8 bf8 p a B3.out (by rw [HL3.out]; have := HQ.out; omega)
 have SGL := sealG_pos Kk Nn Mm q q2 to8 fr8 lt8 lf8 p a bb p62 ap ad (by rw [HL3.out]; have := HQ.out; omega)
 have SCC := Lib.hid (fun vt vf w h1 h2 h3 => SC Kk Nn Mm (q : Int) to8 fr8 p a bb vt vf (.slice p3 k3 c3) LN.out.1.1 LN.out.1.2.1 LN.out.1.2.2 LN.out.2.1 LN.out.2.2.1 LN.out.2.2.2 (by unfold i64_ok; omega) bt8 bf8 (by omega) (by omega) (by omega) (by omega) B3.out (by rw [HL3.out]; have := HQ.out; omega) w h1 h2 h3)
 rw [HK.out] at SCC
 obtain ⟨G, hG⟩ : ∃ G, sealG Kk Nn Mm (q : Int) to8 fr8 p a bb = G := ⟨_, rfl⟩
 rw [hG] at SGM SGL SCC
 obtain ⟨code, X⟩ := G
 dsimp only at SGM SGL SCC
 have s0 : code = 0 := SGL.1
 subst s0
 obtain ⟨pl, hpl⟩ : ∃ pl, (if q = 0 then 26 else if q = 1 then 25 else 9) = pl := ⟨_, rfl⟩
 have PLC := Lib.hid (fun w => place_c q q2 w)
 rw [hpl] at PLC
 have pl30 : pl ≤ 30 := by rw [← hpl]; split; decide; split <;> decide
 obtain ⟨lx, hlx⟩ : ∃ k, X.length = k := ⟨_, rfl⟩
 have XM := Lib.hid (show lx ≤ 300 ∧ 0 < lx ∧ Bytes X ∧ pl ≤ 30 ∧ p < 4611686018427387904 by rw [← hlx]; exact ⟨SGM.1, SGL.2, SGM.2, pl30, p62⟩)
 have HX := Lib.hid hlx
 have PCC := Lib.hid (fun (K N M : List Nat) (L : (K.length = 16 ∧ N.length = 12 ∧ M.length = 16) ∧ Bytes K ∧ Bytes N ∧ Bytes M) (x : List Nat) a e nx vx bx lx wa we hn w h => PC K N M x a e nx vx L.1.1 L.1.2.1 L.1.2.2 L.2.1 L.2.2.1 L.2.2.2 bx lx wa we hn w h)
 have RCC := Lib.hid (fun (K N M : List Nat) (L : (K.length = 16 ∧ N.length = 12 ∧ M.length = 16) ∧ Bytes K ∧ Bytes N ∧ Bytes M) (x : List Nat) a e nx vx bx lx wa we hn w h => opened_w K N M x a e nx vx L.1.1 L.1.2.1 L.1.2.2 L.2.1 L.2.2.1 L.2.2.2 bx lx wa we hn w h _ rfl)
 clear SGM SGL hG hpl pl30 hlx q2 bt8 bf8 p62 ap ad SC PC
 obtain ⟨m1, hm1⟩ : ∃ k, to8.length = k := ⟨_, rfl⟩
 obtain ⟨m2, hm2⟩ : ∃ k, fr8.length = k := ⟨_, rfl⟩
 have KC37 := (cs_cells (show Blk w3 W.heap.size 40 (csA s #[.int .i64 sp, vt, vf, .int .u64 (pn : Int), .int .u64 (ac : Int), .bool r, .slice p3 k3 c3]) by rw [show csA s #[.int .i64 sp, vt, vf, .int .u64 (pn : Int), .int .u64 (ac : Int), .bool r, .slice p3 k3 c3] = CS from HCS.out]; exact K) L32.out).2.2.2.2.2.1
 have KF37 := K.frozen 37
 go_upto_region 5 with fail
 rename_i aK
 refine wp_region_seq ?_
 refine svl (.pointer (some ⟨W.heap.size, 37, none⟩)) (.inl ⟨by rfl, fun w' _ => by (go_simp)⟩) ?_
 simp only [AP]
 refine wpSeq_wp rfl ?_
 unfold Oper.wp execOp
 go_simp
 refine wpSeq_nil ?_
 refine (by assumption : ∀ (a : Act) (w : World), _ → _) _ _ ?_
 have K5 := K.set 37 (.bool true)
 rw [← HCS.out, show (csA s (csT sp vt vf pn ac r (.slice p3 k3 c3))).setIfInBounds 37 (.bool true) = _ from csA_set L32.out _ 5 _] at K5
 replace KO2 := KO2.far (p := ⟨W.heap.size, 37, none⟩) (by show W.heap.size + 1 ≠ W.heap.size; omega) (.bool true)
 replace b := b.setCell (p := ⟨W.heap.size, 37, none⟩) (Nat.le_refl _) (.bool true)
 clear K KC37 KF37
 generalize World.setCell w3 _ _ = w4 at *
 obtain ⟨CS2, hCS2⟩ : ∃ CS, csA s (csT sp vt vf pn ac true (.slice p3 k3 c3)) = CS := ⟨_, rfl⟩
 replace K5 : Blk w4 W.heap.size 40 CS2 := by rw [← hCS2]; exact K5
 have K := K5
 rw [hCS2] at HCC
 have csz2 : (Tryd.prog.info? 40).map (·.size) = some CS2.size := by rw [← hCS2]; exact cz _ rfl
 have HCS2 := Lib.hid hCS2
 clear hCS2 K5 csz cz
 go_upto_region 6 with fail
 rename_i aK
 refine wp_region_seq ?_
 refine wpSeq_yield (S := fun w' => w' = w4) (show YieldsIf _ _ _ _ (.agg CS2) _ from yieldsIf_row_wanted (S := fun w' => w' = w4) rfl 40 _ rfl W.heap.size rfl 40 _ _ (fun _ h => h ▸ K) Tryd.underlying40 rfl csz2) rfl ?_
 simp only [AP]
 refine wpSeq_wp rfl ?_
 unfold Oper.wp execOp
 go_simp
 refine (HCC.out w4 b).mono ?_
 rintro _ w5 ⟨vt2, vf2, rfl, S1, S2, b5⟩
 replace K := K.below' b5
 replace KO2 := KO2.below' b5
 replace b := b.trans (b5.mono b.size)
 obtain ⟨pt, ct, rfl⟩ := S1.shape
 obtain ⟨pf, cf, rfl⟩ := S2.shape
 rw [hm1] at S1 ⊢
 rw [hm2] at S2 ⊢
 clear b5 HCC
 go_simp
 refine smv (.tuple #[.agg #[.int .i64 (q : Int), .slice pt m1 ct, .slice pf m2 cf], .int .u64 (p : Int), .int .u64 (a : Int)]) rfl rfl rfl ?_
 simp only [AP]
 refine svl (.agg #[.int .i64 (q : Int), .slice pt m1 ct, .slice pf m2 cf]) (.inl ⟨by rfl, fun w' _ => by go_simp⟩) ?_
 simp only [AP]
 refine svl (.int .u64 (p : Int)) (.inl ⟨by rfl, fun w' _ => by go_simp⟩) ?_
 simp only [AP]
 refine svl (.int .u64 (a : Int)) (.inl ⟨by rfl, fun w' _ => by go_simp⟩) ?_
 simp only [AP]
 refine wpSeq_wp rfl ?_
 unfold Oper.wp execOp
 go_simp
 refine wpSeq_store_row rfl 42 _ _ rfl w5.heap.size _ rfl rfl _ _ (Blk.new w5 _ _) (by exact info_hd) rfl (cell_one _ _ _ _ _ _ _) ?_
 simp only [Act.put]
 refine sas (.int .u64 (p : Int)) rfl rfl rfl ?_
 simp only [AP]
 refine sas (.int .u64 (a : Int)) rfl rfl rfl ?_
 simp only [AP]
 refine wpSeq_nil ?_
 refine (by assumption : ∀ (a : Act) (w : World), _ → _) _ _ ?_
 generalize hw6 : World.setRow _ w5.heap.size _ = w6
 have F6 : Blk w6 w5.heap.size 42 #[.int .i64 (q : Int), .slice pt m1 ct, .slice pf m2 cf] ∧ Below w5.heap.size w5 w6 := by
  rw [← hw6]
  exact one_row _ _ _ _
 clear hw6
 obtain ⟨KH, b6⟩ := F6
 have NG := Lib.hid (And.intro K.lt (Nat.le_refl w5.heap.size))
 replace K := K.below' b6
 replace KO2 := KO2.below' b6
 replace b := b.trans (b6.mono b.size)
 replace S1 := S1.below b6
 replace S2 := S2.below b6
 clear b6
 obtain ⟨gh, hgh⟩ : ∃ g, w5.heap.size = g := ⟨_, rfl⟩
 rw [hgh] at KH ⊢
 clear hgh NG
 go_upto_region 7 with fail
 rename_i aK
 refine wp_region_seq ?_
 refine svl (.pointer (some ⟨W.heap.size, 0, none⟩)) (.inl ⟨by rfl, fun w' _ => by (go_simp)⟩) ?_
 simp only [AP]
 refine wpSeq_yield (S := fun w' => w' = w6) (show YieldsIf _ _ _ _ (.agg (Iv .u8 (NI s))) _ from yieldsIf_load_mid (S := fun w' => w' = w6) rfl 23 _ rfl W.heap.size 0 rfl ((NI s).map (Value.int .u8)) _ (fun _ h => h ▸ cs_key L32.out _ (show Blk w6 W.heap.size 40 (csA s (csT sp vt vf pn ac true (.slice p3 k3 c3))) by rw [HCS2.out]; exact K)) Tryd.underlying23 rfl (by rw [info_key32]; simp [NI, L32.out])) rfl ?_
 simp only [AP]
 refine wpSeq_wp rfl ?_
 unfold Oper.wp execOp
 go_simp
 refine (OCC.out w6 b).mono ?_
 rintro _ w7 ⟨rfl, b7⟩
 replace K := K.below' b7
 replace KO2 := KO2.below' b7
 replace KH := KH.below' b7
 replace b := b.trans (b7.mono b.size)
 replace S1 := S1.below b7
 replace S2 := S2.below b7
 clear b7 OCC
 go_simp
 refine wpSeq_wp rfl ?_
 unfold Oper.wp execOp
 go_simp
 refine wpSeq_store_row rfl 30 _ _ rfl w7.heap.size KC rfl rfl _ _ (Blk.new w7 _ _) (info_keys KC KZ.out) (by rw [KZ.out]; rfl) KO.out ?_
 simp only [Act.put]
 refine wpSeq_nil ?_
 refine (by assumption : ∀ (a : Act) (w : World), _ → _) _ _ ?_
 generalize hw8 : World.setRow _ w7.heap.size _ = w8
 have F8 : Blk w8 w7.heap.size 30 KC ∧ Below w7.heap.size w7 w8 := by
  rw [← hw8]
  exact one_row _ _ _ _
 clear hw8
 obtain ⟨KK, b8⟩ := F8
 have KO2L := KO2.lt
 replace K := K.below' b8
 replace KO2 := KO2.below' b8
 replace KH := KH.below' b8
 replace b := b.trans (b8.mono b.size)
 replace S1 := S1.below b8
 replace S2 := S2.below b8
 clear b8
 obtain ⟨gk, hgk⟩ : ∃ g, w7.heap.size = g := ⟨_, rfl⟩
 rw [hgk] at KK ⊢
 have GK := Lib.hid (show W.heap.size + 1 < gk by rw [← hgk]; exact KO2L)
 clear hgk KO2L
 have MLH := Lib.hid (ML.mk K KO2 KH KK b)
 clear K KO2 KH KK b
 have hnx := WI.out.2.2.2.1
 obtain ⟨nz, hnz⟩ : ∃ z, nx % 4611686018427387904 = z := ⟨_, rfl⟩
 have nz62 : nz < 4611686018427387904 := by rw [← hnz]; exact Nat.mod_lt _ (by decide)
 have r1 : (nx : Int).tmod 4611686018427387904 = (nz : Int) := by rw [← hnz]; rfl
 have r1b : (nx : Int) % 4611686018427387904 = (nz : Int) := by omega
 have r2 : IntKind.u64.wrap (nz : Int) = (nz : Int) := by rw [IntKind.wrap_u64]; omega
 go_upto_region 8 with fail
 rename_i aK
 refine wp_region_seq ?_
 refine smv (.int .u64 (nx : Int)) rfl rfl rfl ?_
 simp only [AP]
 refine svl (.int .u64 (nz : Int)) (.inl ⟨by rfl, fun w' _ => by go_simp⟩) ?_
 simp only [AP]
 refine sas (.int .u64 (nz : Int)) rfl rfl rfl ?_
 simp only [AP]
 refine wpSeq_nil ?_
 refine (by assumption : ∀ (a : Act) (w : World), _ → _) _ _ ?_
 clear r1 r1b r2 hnx hnz
 have NZ := Lib.hid nz62
 clear nz62
 have hwh := WI.out.2.2.2.2
 obtain ⟨z3, hz3⟩ : ∃ z, wh % 3 = z := ⟨_, rfl⟩
 obtain ⟨z2, hz2⟩ : ∃ z, wh % 2 = z := ⟨_, rfl⟩
 obtain ⟨z5, hz5⟩ : ∃ z, wh % 5 = z := ⟨_, rfl⟩
 obtain ⟨z7, hz7⟩ : ∃ z, wh % 7 = z := ⟨_, rfl⟩
 have d3 : (wh : Int).tmod 3 = (z3 : Int) ∧ (wh : Int) % 3 = (z3 : Int) ∧ IntKind.u8.wrap (z3 : Int) = (z3 : Int) := ⟨by rw [← hz3]; rfl, by omega, by rw [IntKind.wrap_u8]; omega⟩
 have d2 : (wh : Int).tmod 2 = (z2 : Int) ∧ (wh : Int) % 2 = (z2 : Int) ∧ IntKind.u8.wrap (z2 : Int) = (z2 : Int) := ⟨by rw [← hz2]; rfl, by omega, by rw [IntKind.wrap_u8]; omega⟩
 have d5 : (wh : Int).tmod 5 = (z5 : Int) ∧ (wh : Int) % 5 = (z5 : Int) ∧ IntKind.u8.wrap (z5 : Int) = (z5 : Int) := ⟨by rw [← hz5]; rfl, by omega, by rw [IntKind.wrap_u8]; omega⟩
 have d7 : (wh : Int).tmod 7 = (z7 : Int) ∧ (wh : Int) % 7 = (z7 : Int) ∧ IntKind.u8.wrap (z7 : Int) = (z7 : Int) := ⟨by rw [← hz7]; rfl, by omega, by rw [IntKind.wrap_u8]; omega⟩
 replace d3 := Lib.hid d3
 replace d2 := Lib.hid d2
 replace d5 := Lib.hid d5
 replace d7 := Lib.hid d7
 clear hz3 hz2 hz5 hz7 hwh
 go_upto_region 9 with fail
 rename_i KJ aJ K9 a9
 have AK : ∀ (vB : Value) (bL : List Nat) (aa ea : Int) (na : Nat) (u21 u50 u51 u52 u53 u54 u55 u56 u57 u58 u59 u60 u61 u62 u63 u64 u65 u66 u67 u68 u69 u70 u71 u72 u73 u74 u75 u76 u77 u78 u79 u80 u81 u82 u83 u84 u85 u86 u87 u88 u89 u90 u91 u92 : Value) (wt : World), ML W CS2 OCV #[.int .i64 (q : Int), .slice pt m1 ct, .slice pf m2 cf] KC gh gk wt → SB wt vB bL → (∀ g1 o n c, vB = .slice (some ⟨g1, o, none⟩) n c → bL = [] ∨ g1 ≠ gk) → (Bytes bL ∧ bL.length ≤ 1000 ∧ i64_ok aa ∧ i64_ok ea ∧ na < 4611686018427387904) → KJ { tmps := #[.agg CS, .agg OCV, vB, .int .i64 aa, .int .i64 ea, .int .i64 bt_, .int .u64 (na : Int), .int .u8 (wh : Int), .pointer (some ⟨W.heap.size, 0, none⟩), .pointer (some ⟨W.heap.size + 1, 0, none⟩), undef, undef, undef, undef, undef, undef, .bool false, .pointer (some ⟨gh, 0, none⟩), .int .u64 (p : Int), .int .u64 (a : Int), .pointer (some ⟨gk, 0, none⟩), u21, undef, undef, undef, undef, undef, undef, undef, .bool true, .bool false, .agg CS, .bool false, .bool false, .slice p4 m4 c4, .int .i64 (m4 : Int), .bool false, .bool false, .pointer (some ⟨W.heap.size, 37, none⟩), .tuple #[.agg #[.int .i64 (q : Int), .slice pt m1 ct, .slice pf m2 cf], .int .u64 (p : Int), .int .u64 (a : Int)], .agg CS2, .tuple #[.agg #[.int .i64 (q : Int), .slice pt m1 ct, .slice pf m2 cf], .int .u64 (p : Int), .int .u64 (a : Int)], .agg #[.int .i64 (q : Int), .slice pt m1 ct, .slice pf m2 cf], .int .u64 (p : Int), .int .u64 (a : Int), .pointer (some ⟨W.heap.size, 0, none⟩), .agg (Iv .u8 (NI s)), .agg KC, .int .u64 (nx : Int), .int .u64 (nz : Int), u50, u51, u52, u53, u54, u55, u56, u57, u58, u59, u60, u61, u62, u63, u64, u65, u66, u67, u68, u69, u70, u71, u72, u73, u74, u75, u76, u77, u78, u79, u80, u81, u82, u83, u84, u85, u86, u87, u88, u89, u90, u91, u92, undef, undef, undef, undef, undef, undef, undef, undef, undef, undef, undef, undef, undef, undef, undef, undef, undef, undef, undef, undef, undef, undef, undef, undef, undef, undef, undef, undef, undef, undef, undef, undef, undef, undef, undef, undef, undef, undef, undef, undef, undef, undef, undef, undef, undef, undef, undef, undef, undef, undef], defers := [] } wt := by
  intro vB bL aa ea na u21 u50 u51 u52 u53 u54 u55 u56 u57 u58 u59 u60 u61 u62 u63 u64 u65 u66 u67 u68 u69 u70 u71 u72 u73 u74 u75 u76 u77 u78 u79 u80 u81 u82 u83 u84 u85 u86 u87 u88 u89 u90 u91 u92 wt MM0 BO0 NE0 BP0
  refine aJ _ _ ?_
  clear aJ a9 MLH SCC PLC S1 S2 H3 H4 B3 B4 HCS2 csz2
  have MM := Lib.hid MM0
  have BO := Lib.hid BO0
  have NE := Lib.hid NE0
  have BP := Lib.hid BP0
  clear MM0 BO0 NE0 BP0
  by_cases s7 : z7 = 6
  ·
   skip
   obtain ⟨x1, x2, x3⟩ := d7.out
   go_upto_region 17 with fail
   rename_i aK
   refine wp_region_seq ?_
   refine smv (.int .u8 (wh : Int)) rfl rfl rfl ?_
   simp only [AP]
   refine svl (.int .u8 (z7 : Int)) (.inl ⟨by rfl, fun w' _ => by (go_simp; try omega)⟩) ?_
   simp only [AP]
   refine svl (.bool true) (.inl ⟨by rfl, fun w' _ => by (go_simp; try omega)⟩) ?_
   simp only [AP]
   refine wpSeq_nil ?_
   refine (by assumption : ∀ (a : Act) (w : World), _ → _) _ _ ?_
   clear x1 x2 x3
   go_upto_region 18 with fail
   rename_i aK
   refine wp_region_seq ?_
   refine wpSeq_yield (S := fun w' => w' = wt) (show YieldsIf _ _ _ _ (.agg OCV) _ from yieldsIf_row_wanted (S := fun w' => w' = wt) rfl 23 _ rfl (W.heap.size + 1) rfl 23 _ _ (fun _ h => h ▸ MM.out.oth) Tryd.underlying23 rfl osz) rfl ?_
   simp only [AP]
   refine wpSeq_wp rfl ?_
   unfold Oper.wp execOp
   go_simp
   refine (OCO.out wt MM.out.bel).mono ?_
   rintro _ w18 ⟨rfl, b18⟩
   replace MM := Lib.hid (MM.out.step b18)
   replace BO := Lib.hid (BO.out.below b18)
   clear b18
   go_simp
   refine wpSeq_store_row rfl 30 _ _ rfl gk KC2 rfl rfl _ _ MM.out.ky (info_keys KC2 KZ2.out) (by rw [KZ2.out, KZ.out]) KOO2.out ?_
   simp only [Act.put]
   refine wpSeq_nil ?_
   refine (by assumption : ∀ (a : Act) (w : World), _ → _) _ _ ?_
   have BO2 := BO.out.rowfar (g := gk) NE.out KC2
   have ky2 := MM.out.ky.row KC2
   have bl2 := below_setRow MM.out.bel (g := gk) (by have := GK.out; omega) KC2
   clear MM BO
   have BO := Lib.hid BO2
   clear BO2
   generalize World.setRow w18 _ _ = w19 at *
   have B1 := Own1.build w19.heap.size w19 (Nat.le_refl _)
   have b1 := (Below.refl w19.heap.size w19).alloc (Nat.le_refl _) (.cells #[] 5)
   obtain ⟨v21, w21, hr21, O21, b21⟩ := own1_bytes 24 vB bL B1 (BO.out.below b1) (by have := BP.out; simp only [List.length_nil]; omega) b1 b1.size
   rw [List.nil_append] at O21
   clear B1 b1
   go_upto_region 19 with fail
   rename_i aK
   refine wp_region_seq ?_
   refine wpSeq_wp rfl (wp_build_run _ rfl _ _ (run_buildSlice_none _) ?_)
   simp only [AP]
   refine smv (vB) rfl rfl rfl ?_
   simp only [AP]
   refine wpSeq_wp rfl (wp_append_run _ _ _ _ rfl _ _ rfl rfl v21 w21 hr21 ?_)
   simp only [AP]
   refine sas (v21) rfl rfl rfl ?_
   simp only [AP]
   refine wpSeq_nil ?_
   refine (by assumption : ∀ (a : Act) (w : World), _ → _) _ _ ?_
   clear hr21
   replace ky2 := ky2.below' b21
   replace bl2 := bl2.trans (b21.mono bl2.size)
   replace BO := Lib.hid (BO.out.below b21)
   have SI := Lib.hid O21.own.sb
   clear b21 O21
   obtain ⟨R0, hR0⟩ : ∃ R, openG Kk2 Nn2 Mm2 bL aa ea na = R := ⟨_, rfl⟩
   have C1 := PCC.out Kk2 Nn2 Mm2 LN2.out bL aa ea na v21 BP.out.1 BP.out.2.1 BP.out.2.2.1 BP.out.2.2.2.1 BP.out.2.2.2.2 w21 SI.out
   have C2 := fun (w : World) (h : SB w vB bL) => RCC.out Kk2 Nn2 Mm2 LN2.out bL aa ea na vB BP.out.1 BP.out.2.1 BP.out.2.2.1 BP.out.2.2.2.1 BP.out.2.2.2.2 w h
   rw [HK2.out, hR0] at C1 C2
   obtain ⟨rc, rn, rt⟩ := R0
   dsimp only at C1 C2
   replace C1 := Lib.hid C1
   replace C2 := Lib.hid C2
   clear hR0
   go_upto_region 20 with fail
   rename_i aK
   refine wp_region_seq ?_
   refine wpSeq_yield (S := fun w' => w' = w21) (show YieldsIf _ _ _ _ (.agg KC2) _ from yieldsIf_row_wanted (S := fun w' => w' = w21) rfl 30 _ rfl gk rfl 30 _ _ (fun _ h => h ▸ ky2) Tryd.underlying30 rfl (info_keys KC2 KZ2.out)) rfl ?_
   simp only [AP]
   refine smv (v21) rfl rfl rfl ?_
   simp only [AP]
   refine smv (.int .i64 aa) rfl rfl rfl ?_
   simp only [AP]
   refine smv (.int .i64 ea) rfl rfl rfl ?_
   simp only [AP]
   refine smv (.int .u64 (na : Int)) rfl rfl rfl ?_
   simp only [AP]
   refine wpSeq_wp rfl ?_
   unfold Oper.wp execOp
   go_simp
   refine C1.out.mono ?_
   rintro _ w22 ⟨v22, rfl, O22, b22⟩
   replace ky2 := ky2.below' b22
   replace bl2 := bl2.trans (b22.mono bl2.size)
   replace BO := Lib.hid (BO.out.below b22)
   replace SI := Lib.hid (SI.out.below b22)
   have ST := Lib.hid O22.sb
   clear b22 O22 C1
   go_simp
   refine smv (.tuple #[.int .u64 (rn : Int), v22, .int .i64 (rc : Int)]) rfl rfl rfl ?_
   simp only [AP]
   refine svl (.int .u64 (rn : Int)) (.inl ⟨by rfl, fun w' _ => by go_simp⟩) ?_
   simp only [AP]
   refine svl (v22) (.inl ⟨by rfl, fun w' _ => by go_simp⟩) ?_
   simp only [AP]
   refine svl (.int .i64 (rc : Int)) (.inl ⟨by rfl, fun w' _ => by go_simp⟩) ?_
   simp only [AP]
   refine sas (.int .u64 (rn : Int)) rfl rfl rfl ?_
   simp only [AP]
   refine sas (v22) rfl rfl rfl ?_
   simp only [AP]
   refine sas (.int .i64 (rc : Int)) rfl rfl rfl ?_
   simp only [AP]
   refine wpSeq_nil ?_
   refine (by assumption : ∀ (a : Act) (w : World), _ → _) _ _ ?_
   go_upto_region 21 with fail
   rename_i aK
   refine wp_region_seq ?_
   refine wpSeq_yield (S := fun w' => w' = w22) (show YieldsIf _ _ _ _ (.agg KC2) _ from yieldsIf_row_wanted (S := fun w' => w' = w22) rfl 30 _ rfl gk rfl 30 _ _ (fun _ h => h ▸ ky2) Tryd.underlying30 rfl (info_keys KC2 KZ2.out)) rfl ?_
   simp only [AP]
   refine smv (vB) rfl rfl rfl ?_
   simp only [AP]
   refine smv (.int .i64 aa) rfl rfl rfl ?_
   simp only [AP]
   refine smv (.int .i64 ea) rfl rfl rfl ?_
   simp only [AP]
   refine smv (.int .u64 (na : Int)) rfl rfl rfl ?_
   simp only [AP]
   refine wpSeq_wp rfl ?_
   unfold Oper.wp execOp
   go_simp
   refine (C2.out w22 BO.out).mono ?_
   rintro _ w23 ⟨v23, rfl, S23, b23⟩
   replace bl2 := bl2.trans (b23.mono bl2.size)
   replace BO := Lib.hid (BO.out.below b23)
   replace SI := Lib.hid (SI.out.below b23)
   replace ST := Lib.hid (ST.out.below b23)
   clear b23 C2 ky2
   go_simp
   refine smv (.tuple #[.int .u64 (rn : Int), v23, .int .i64 (rc : Int)]) rfl rfl rfl ?_
   simp only [AP]
   refine svl (.int .u64 (rn : Int)) (.inl ⟨by rfl, fun w' _ => by go_simp⟩) ?_
   simp only [AP]
   refine svl (v23) (.inl ⟨by rfl, fun w' _ => by go_simp⟩) ?_
   simp only [AP]
   refine svl (.int .i64 (rc : Int)) (.inl ⟨by rfl, fun w' _ => by go_simp⟩) ?_
   simp only [AP]
   refine sas (.int .u64 (rn : Int)) rfl rfl rfl ?_
   simp only [AP]
   refine sas (v23) rfl rfl rfl ?_
   simp only [AP]
   refine sas (.int .i64 (rc : Int)) rfl rfl rfl ?_
   simp only [AP]
   refine wpSeq_nil ?_
   refine (by assumption : ∀ (a : Act) (w : World), _ → _) _ _ ?_
   go_upto_region 22 with fail
   rename_i aK
   refine wp_region_seq ?_
   refine smv (v21) rfl rfl rfl ?_
   simp only [AP]
   refine wpSeq_yield (S := fun w' => w' = w23) (yieldsIf_conv (S := fun w' => w' = w23) rfl _ rfl (v21) rfl (bL) (fun w' h => h ▸ SI.out)) rfl ?_
   simp only [AP]
   refine smv (vB) rfl rfl rfl ?_
   simp only [AP]
   refine wpSeq_yield (S := fun w' => w' = w23) (yieldsIf_conv (S := fun w' => w' = w23) rfl _ rfl (vB) rfl (bL) (fun w' h => h ▸ BO.out)) rfl ?_
   simp only [AP]
   refine wpSeq_yield (S := fun _ => True) (yieldsIf_strB rfl _ _ rfl (bL) (bL) rfl rfl rfl) trivial ?_
   simp only [AP]
   refine smv (.bool true) rfl rfl rfl ?_
   simp only [AP]
   refine smv (.int .i64 (rc : Int)) rfl rfl rfl ?_
   simp only [AP]
   refine smv (.int .i64 (rc : Int)) rfl rfl rfl ?_
   simp only [AP]
   refine svl (.bool true) (.inl ⟨by rfl, fun w' _ => by go_simp⟩) ?_
   simp only [AP]
   refine wpSeq_yield (S := fun _ => True) (yieldsIf_pick rfl _ _ _ rfl true rfl (.bool true) rfl) trivial ?_
   simp only [AP]
   refine smv (.bool true) rfl rfl rfl ?_
   simp only [AP]
   refine smv (.int .u64 (rn : Int)) rfl rfl rfl ?_
   simp only [AP]
   refine smv (.int .u64 (rn : Int)) rfl rfl rfl ?_
   simp only [AP]
   refine svl (.bool true) (.inl ⟨by rfl, fun w' _ => by go_simp⟩) ?_
   simp only [AP]
   refine wpSeq_yield (S := fun _ => True) (yieldsIf_pick rfl _ _ _ rfl true rfl (.bool true) rfl) trivial ?_
   simp only [AP]
   refine smv (.bool true) rfl rfl rfl ?_
   simp only [AP]
   refine smv (v22) rfl rfl rfl ?_
   simp only [AP]
   refine wpSeq_yield (S := fun w' => w' = w23) (yieldsIf_conv (S := fun w' => w' = w23) rfl _ rfl (v22) rfl (rt) (fun w' h => h ▸ ST.out)) rfl ?_
   simp only [AP]
   refine smv (v23) rfl rfl rfl ?_
   simp only [AP]
   refine wpSeq_yield (S := fun w' => w' = w23) (yieldsIf_conv (S := fun w' => w' = w23) rfl _ rfl (v23) rfl (rt) (fun w' h => h ▸ S23)) rfl ?_
   simp only [AP]
   refine wpSeq_yield (S := fun _ => True) (yieldsIf_strB rfl _ _ rfl (rt) (rt) rfl rfl rfl) trivial ?_
   simp only [AP]
   refine wpSeq_yield (S := fun _ => True) (yieldsIf_pick rfl _ _ _ rfl true rfl (.bool true) rfl) trivial ?_
   simp only [AP]
   refine sas (.bool true) rfl rfl rfl ?_
   simp only [AP]
   refine wpSeq_nil ?_
   refine (by assumption : ∀ (a : Act) (w : World), _ → _) _ _ ?_
   go_wp2
   go_ret
   exact ⟨rfl, bl2⟩
  ·
   have ky2 := MM.out.ky
   have bl2 := MM.out.bel
   clear MM
   obtain ⟨x1, x2, x3⟩ := d7.out
   go_upto_region 17 with fail
   rename_i aK
   refine wp_region_seq ?_
   refine smv (.int .u8 (wh : Int)) rfl rfl rfl ?_
   simp only [AP]
   refine svl (.int .u8 (z7 : Int)) (.inl ⟨by rfl, fun w' _ => by (go_simp; try omega)⟩) ?_
   simp only [AP]
   refine svl (.bool false) (.inl ⟨by rfl, fun w' _ => by (go_simp; try omega)⟩) ?_
   simp only [AP]
   refine wpSeq_nil ?_
   refine (by assumption : ∀ (a : Act) (w : World), _ → _) _ _ ?_
   clear x1 x2 x3
   have B1 := Own1.build wt.heap.size wt (Nat.le_refl _)
   have b1 := (Below.refl wt.heap.size wt).alloc (Nat.le_refl _) (.cells #[] 5)
   obtain ⟨v21, w21, hr21, O21, b21⟩ := own1_bytes 24 vB bL B1 (BO.out.below b1) (by have := BP.out; simp only [List.length_nil]; omega) b1 b1.size
   rw [List.nil_append] at O21
   clear B1 b1
   go_upto_region 19 with fail
   rename_i aK
   refine wp_region_seq ?_
   refine wpSeq_wp rfl (wp_build_run _ rfl _ _ (run_buildSlice_none _) ?_)
   simp only [AP]
   refine smv (vB) rfl rfl rfl ?_
   simp only [AP]
   refine wpSeq_wp rfl (wp_append_run _ _ _ _ rfl _ _ rfl rfl v21 w21 hr21 ?_)
   simp only [AP]
   refine sas (v21) rfl rfl rfl ?_
   simp only [AP]
   refine wpSeq_nil ?_
   refine (by assumption : ∀ (a : Act) (w : World), _ → _) _ _ ?_
   clear hr21
   replace ky2 := ky2.below' b21
   replace bl2 := bl2.trans (b21.mono bl2.size)
   replace BO := Lib.hid (BO.out.below b21)
   have SI := Lib.hid O21.own.sb
   clear b21 O21
   obtain ⟨R0, hR0⟩ : ∃ R, openG Kk Nn Mm bL aa ea na = R := ⟨_, rfl⟩
   have C1 := PCC.out Kk Nn Mm LN.out bL aa ea na v21 BP.out.1 BP.out.2.1 BP.out.2.2.1 BP.out.2.2.2.1 BP.out.2.2.2.2 w21 SI.out
   have C2 := fun (w : World) (h : SB w vB bL) => RCC.out Kk Nn Mm LN.out bL aa ea na vB BP.out.1 BP.out.2.1 BP.out.2.2.1 BP.out.2.2.2.1 BP.out.2.2.2.2 w h
   rw [HK.out, hR0] at C1 C2
   obtain ⟨rc, rn, rt⟩ := R0
   dsimp only at C1 C2
   replace C1 := Lib.hid C1
   replace C2 := Lib.hid C2
   clear hR0
   go_upto_region 20 with fail
   rename_i aK
   refine wp_region_seq ?_
   refine wpSeq_yield (S := fun w' => w' = w21) (show YieldsIf _ _ _ _ (.agg KC) _ from yieldsIf_row_wanted (S := fun w' => w' = w21) rfl 30 _ rfl gk rfl 30 _ _ (fun _ h => h ▸ ky2) Tryd.underlying30 rfl (info_keys KC KZ.out)) rfl ?_
   simp only [AP]
   refine smv (v21) rfl rfl rfl ?_
   simp only [AP]
   refine smv (.int .i64 aa) rfl rfl rfl ?_
   simp only [AP]
   refine smv (.int .i64 ea) rfl rfl rfl ?_
   simp only [AP]
   refine smv (.int .u64 (na : Int)) rfl rfl rfl ?_
   simp only [AP]
   refine wpSeq_wp rfl ?_
   unfold Oper.wp execOp
   go_simp
   refine C1.out.mono ?_
   rintro _ w22 ⟨v22, rfl, O22, b22⟩
   replace ky2 := ky2.below' b22
   replace bl2 := bl2.trans (b22.mono bl2.size)
   replace BO := Lib.hid (BO.out.below b22)
   replace SI := Lib.hid (SI.out.below b22)
   have ST := Lib.hid O22.sb
   clear b22 O22 C1
   go_simp
   refine smv (.tuple #[.int .u64 (rn : Int), v22, .int .i64 (rc : Int)]) rfl rfl rfl ?_
   simp only [AP]
   refine svl (.int .u64 (rn : Int)) (.inl ⟨by rfl, fun w' _ => by go_simp⟩) ?_
   simp only [AP]
   refine svl (v22) (.inl ⟨by rfl, fun w' _ => by go_simp⟩) ?_
   simp only [AP]
   refine svl (.int .i64 (rc : Int)) (.inl ⟨by rfl, fun w' _ => by go_simp⟩) ?_
   simp only [AP]
   refine sas (.int .u64 (rn : Int)) rfl rfl rfl ?_
   simp only [AP]
   refine sas (v22) rfl rfl rfl ?_
   simp only [AP]
   refine sas (.int .i64 (rc : Int)) rfl rfl rfl ?_
   simp only [AP]
   refine wpSeq_nil ?_
   refine (by assumption : ∀ (a : Act) (w : World), _ → _) _ _ ?_
   go_upto_region 21 with fail
   rename_i aK
   refine wp_region_seq ?_
   refine wpSeq_yield (S := fun w' => w' = w22) (show YieldsIf _ _ _ _ (.agg KC) _ from yieldsIf_row_wanted (S := fun w' => w' = w22) rfl 30 _ rfl gk rfl 30 _ _ (fun _ h => h ▸ ky2) Tryd.underlying30 rfl (info_keys KC KZ.out)) rfl ?_
   simp only [AP]
   refine smv (vB) rfl rfl rfl ?_
   simp only [AP]
   refine smv (.int .i64 aa) rfl rfl rfl ?_
   simp only [AP]
   refine smv (.int .i64 ea) rfl rfl rfl ?_
   simp only [AP]
   refine smv (.int .u64 (na : Int)) rfl rfl rfl ?_
   simp only [AP]
   refine wpSeq_wp rfl ?_
   unfold Oper.wp execOp
   go_simp
   refine (C2.out w22 BO.out).mono ?_
   rintro _ w23 ⟨v23, rfl, S23, b23⟩
   replace bl2 := bl2.trans (b23.mono bl2.size)
   replace BO := Lib.hid (BO.out.below b23)
   replace SI := Lib.hid (SI.out.below b23)
   replace ST := Lib.hid (ST.out.below b23)
   clear b23 C2 ky2
   go_simp
   refine smv (.tuple #[.int .u64 (rn : Int), v23, .int .i64 (rc : Int)]) rfl rfl rfl ?_
   simp only [AP]
   refine svl (.int .u64 (rn : Int)) (.inl ⟨by rfl, fun w' _ => by go_simp⟩) ?_
   simp only [AP]
   refine svl (v23) (.inl ⟨by rfl, fun w' _ => by go_simp⟩) ?_
   simp only [AP]
   refine svl (.int .i64 (rc : Int)) (.inl ⟨by rfl, fun w' _ => by go_simp⟩) ?_
   simp only [AP]
   refine sas (.int .u64 (rn : Int)) rfl rfl rfl ?_
   simp only [AP]
   refine sas (v23) rfl rfl rfl ?_
   simp only [AP]
   refine sas (.int .i64 (rc : Int)) rfl rfl rfl ?_
   simp only [AP]
   refine wpSeq_nil ?_
   refine (by assumption : ∀ (a : Act) (w : World), _ → _) _ _ ?_
   go_upto_region 22 with fail
   rename_i aK
   refine wp_region_seq ?_
   refine smv (v21) rfl rfl rfl ?_
   simp only [AP]
   refine wpSeq_yield (S := fun w' => w' = w23) (yieldsIf_conv (S := fun w' => w' = w23) rfl _ rfl (v21) rfl (bL) (fun w' h => h ▸ SI.out)) rfl ?_
   simp only [AP]
   refine smv (vB) rfl rfl rfl ?_
   simp only [AP]
   refine wpSeq_yield (S := fun w' => w' = w23) (yieldsIf_conv (S := fun w' => w' = w23) rfl _ rfl (vB) rfl (bL) (fun w' h => h ▸ BO.out)) rfl ?_
   simp only [AP]
   refine wpSeq_yield (S := fun _ => True) (yieldsIf_strB rfl _ _ rfl (bL) (bL) rfl rfl rfl) trivial ?_
   simp only [AP]
   refine smv (.bool true) rfl rfl rfl ?_
   simp only [AP]
   refine smv (.int .i64 (rc : Int)) rfl rfl rfl ?_
   simp only [AP]
   refine smv (.int .i64 (rc : Int)) rfl rfl rfl ?_
   simp only [AP]
   refine svl (.bool true) (.inl ⟨by rfl, fun w' _ => by go_simp⟩) ?_
   simp only [AP]
   refine wpSeq_yield (S := fun _ => True) (yieldsIf_pick rfl _ _ _ rfl true rfl (.bool true) rfl) trivial ?_
   simp only [AP]
   refine smv (.bool true) rfl rfl rfl ?_
   simp only [AP]
   refine smv (.int .u64 (rn : Int)) rfl rfl rfl ?_
   simp only [AP]
   refine smv (.int .u64 (rn : Int)) rfl rfl rfl ?_
   simp only [AP]
   refine svl (.bool true) (.inl ⟨by rfl, fun w' _ => by go_simp⟩) ?_
   simp only [AP]
   refine wpSeq_yield (S := fun _ => True) (yieldsIf_pick rfl _ _ _ rfl true rfl (.bool true) rfl) trivial ?_
   simp only [AP]
   refine smv (.bool true) rfl rfl rfl ?_
   simp only [AP]
   refine smv (v22) rfl rfl rfl ?_
   simp only [AP]
   refine wpSeq_yield (S := fun w' => w' = w23) (yieldsIf_conv (S := fun w' => w' = w23) rfl _ rfl (v22) rfl (rt) (fun w' h => h ▸ ST.out)) rfl ?_
   simp only [AP]
   refine smv (v23) rfl rfl rfl ?_
   simp only [AP]
   refine wpSeq_yield (S := fun w' => w' = w23) (yieldsIf_conv (S := fun w' => w' = w23) rfl _ rfl (v23) rfl (rt) (fun w' h => h ▸ S23)) rfl ?_
   simp only [AP]
   refine wpSeq_yield (S := fun _ => True) (yieldsIf_strB rfl _ _ rfl (rt) (rt) rfl rfl rfl) trivial ?_
   simp only [AP]
   refine wpSeq_yield (S := fun _ => True) (yieldsIf_pick rfl _ _ _ rfl true rfl (.bool true) rfl) trivial ?_
   simp only [AP]
   refine sas (.bool true) rfl rfl rfl ?_
   simp only [AP]
   refine wpSeq_nil ?_
   refine (by assumption : ∀ (a : Act) (w : World), _ → _) _ _ ?_
   go_wp2
   go_ret
   exact ⟨rfl, bl2⟩
 clear aJ
 by_cases s3 : z3 = 0
 ·
  skip
  obtain ⟨x1, x2, x3⟩ := d3.out
  refine wp_region_seq ?_
  refine smv (.int .u8 (wh : Int)) rfl rfl rfl ?_
  simp only [AP]
  refine svl (.int .u8 (z3 : Int)) (.inl ⟨by rfl, fun w' _ => by (go_simp; try omega)⟩) ?_
  simp only [AP]
  refine svl (.bool false) (.inl ⟨by rfl, fun w' _ => by (go_simp; try omega)⟩) ?_
  simp only [AP]
  refine wpSeq_nil ?_
  refine (by assumption : ∀ (a : Act) (w : World), _ → _) _ _ ?_
  clear x1 x2 x3
  go_wp2
  exact AK _ bo _ _ _ _ _ _ _ _ _ _ _ _ _ _ _ _ _ _ _ _ _ _ _ _ _ _ _ _ _ _ _ _ _ _ _ _ _ _ _ _ _ _ _ _ _ _ _ _ MLH.out (H4.out.below MLH.out.bel) (H4.out.old (by have := GK.out; omega)) ⟨B4.out, by rw [HL4.out]; have := HQ.out; omega, WI.out.1, WI.out.2.1, NZ.out⟩
 obtain ⟨x1, x2, x3⟩ := d3.out
 refine wp_region_seq ?_
 refine smv (.int .u8 (wh : Int)) rfl rfl rfl ?_
 simp only [AP]
 refine svl (.int .u8 (z3 : Int)) (.inl ⟨by rfl, fun w' _ => by (go_simp; try omega)⟩) ?_
 simp only [AP]
 refine svl (.bool true) (.inl ⟨by rfl, fun w' _ => by (go_simp; try omega)⟩) ?_
 simp only [AP]
 refine wpSeq_nil ?_
 refine (by assumption : ∀ (a : Act) (w : World), _ → _) _ _ ?_
 clear x1 x2 x3
 have C38 := (cs_cells (show Blk w8 W.heap.size 40 (csA s #[.int .i64 sp, vt, vf, .int .u64 (pn : Int), .int .u64 (ac : Int), .bool true, .slice p3 k3 c3]) by rw [show csA s #[.int .i64 sp, vt, vf, .int .u64 (pn : Int), .int .u64 (ac : Int), .bool true, .slice p3 k3 c3] = CS2 from HCS2.out]; exact MLH.out.cas) L32.out).2.2.2.2.2.2
 have KK := MLH.out.ky
 have KH := MLH.out.hd
 have SZ := Lib.hid MLH.out.ky.lt
 go_upto_region 10 with fail
 rename_i aK
 refine wp_region_seq ?_
 refine wpSeq_yield (S := fun w' => w' = w8) (show YieldsIf _ _ _ _ (.agg KC) _ from yieldsIf_row_wanted (S := fun w' => w' = w8) rfl 30 _ rfl gk rfl 30 _ _ (fun _ h => h ▸ KK) Tryd.underlying30 rfl (info_keys KC KZ.out)) rfl ?_
 simp only [AP]
 refine wpSeq_yield (S := fun w' => w' = w8) (load_hdS (S := fun w' => w' = w8) rfl _ rfl gh rfl (q : Int) _ _ (fun _ h => h ▸ KH)) rfl ?_
 simp only [AP]
 refine smv (.int .u64 (p : Int)) rfl rfl rfl ?_
 simp only [AP]
 refine smv (.int .u64 (a : Int)) rfl rfl rfl ?_
 simp only [AP]
 refine svl (.pointer (some ⟨W.heap.size, 38, none⟩)) (.inl ⟨by rfl, fun w' _ => by (go_simp)⟩) ?_
 simp only [AP]
 refine wpSeq_yield (S := fun w' => w' = w8) (v := .slice p3 k3 c3) (Or.inl ⟨by rfl, fun w' hw' => by (rw [hw']; go_simp)⟩) rfl ?_
 simp only [AP]
 refine wpSeq_wp rfl ?_
 unfold Oper.wp execOp
 go_simp
 refine (SCC.out _ _ w8 S1 S2 (H3.out.below MLH.out.bel)).mono ?_
 rintro _ w9 ⟨v9, rfl, O9, b9⟩
 replace MLH := Lib.hid (MLH.out.step b9)
 obtain ⟨g9, c9, hv9, hB9, hg9⟩ := O9.pos (by rw [HX.out]; exact XM.out.2.1)
 rw [HX.out] at hv9
 subst hv9
 have NG := Lib.hid (show gk < g9 ∧ gh < g9 by have := SZ.out; have := KH.lt; omega)
 replace O9 := Lib.hid O9
 clear b9 SCC C38 S1 S2 KK KH SZ hB9 hg9
 go_simp
 refine smv (.tuple #[.slice (some ⟨g9, 0, none⟩) lx c9, .int .i64 ((0 : Nat) : Int)]) rfl rfl rfl ?_
 simp only [AP]
 refine svl (.slice (some ⟨g9, 0, none⟩) lx c9) (.inl ⟨by rfl, fun w' _ => by go_simp⟩) ?_
 simp only [AP]
 refine svl (.int .i64 ((0 : Nat) : Int)) (.inl ⟨by rfl, fun w' _ => by go_simp⟩) ?_
 simp only [AP]
 refine sas (.slice (some ⟨g9, 0, none⟩) lx c9) rfl rfl rfl ?_
 simp only [AP]
 refine wpSeq_nil ?_
 refine (by assumption : ∀ (a : Act) (w : World), _ → _) _ _ ?_
 go_upto_region 11 with fail
 rename_i aK
 refine wp_region_seq ?_
 refine svl (.pointer (some ⟨gh, 0, none⟩)) (.inl ⟨by rfl, fun w' _ => by go_simp⟩) ?_
 simp only [AP]
 refine wpSeq_yield (S := fun w' => w' = w9) (v := .int .i64 (q : Int)) (Or.inl ⟨by rfl, fun w' hw' => by (rw [hw']; have cc : w9.cell? ⟨gh, 0, none⟩ = some (.int .i64 (q : Int)) := MLH.out.hd.cell 0; go_simp)⟩) rfl ?_
 simp only [AP]
 refine wpSeq_wp rfl ?_
 unfold Oper.wp execOp
 go_simp
 refine (PLC.out w9).mono ?_
 rintro _ w10 ⟨rfl, b10⟩
 replace MLH := Lib.hid (MLH.out.step b10)
 replace O9 := Lib.hid (O9.out.below b10)
 clear b10 PLC
 go_simp
 refine smv (.slice (some ⟨g9, 0, none⟩) lx c9) rfl rfl rfl ?_
 simp only [AP]
 refine svl (.int .i64 (lx : Int)) (.inl ⟨by rfl, fun w' _ => by go_simp⟩) ?_
 simp only [AP]
 refine sas (.int .i64 (pl : Int)) rfl rfl rfl ?_
 simp only [AP]
 refine sas (.int .i64 (lx : Int)) rfl rfl rfl ?_
 simp only [AP]
 refine wpSeq_nil ?_
 refine (by assumption : ∀ (a : Act) (w : World), _ → _) _ _ ?_
 have AEO := Lib.hid (show i64_ok (pl : Int) ∧ i64_ok (lx : Int) by unfold i64_ok; have := XM.out; omega)
 have NEQ := Lib.hid (show ∀ (l : List Nat) (g1 o n c : Nat), Value.slice (some ⟨g9, 0, none⟩) lx c9 = .slice (some ⟨g1, o, none⟩) n c → l = [] ∨ g1 ≠ gk from fun l g1 o n c e => by
  simp only [Value.slice.injEq, Option.some.injEq, Addr.mk.injEq] at e
  have := NG.out
  exact Or.inr (by omega))
 by_cases s2 : z2 = 0
 ·
  skip
  obtain ⟨x1, x2, x3⟩ := d2.out
  go_upto_region 12 with fail
  rename_i aK
  refine wp_region_seq ?_
  refine smv (.int .u8 (wh : Int)) rfl rfl rfl ?_
  simp only [AP]
  refine svl (.int .u8 (z2 : Int)) (.inl ⟨by rfl, fun w' _ => by (go_simp; try omega)⟩) ?_
  simp only [AP]
  refine svl (.bool true) (.inl ⟨by rfl, fun w' _ => by (go_simp; try omega)⟩) ?_
  simp only [AP]
  refine wpSeq_nil ?_
  refine (by assumption : ∀ (a : Act) (w : World), _ → _) _ _ ?_
  clear x1 x2 x3
  obtain ⟨ub, hub⟩ : ∃ z, (IntKind.u64.wrap bt_).toNat = z := ⟨_, rfl⟩
  have u1 : IntKind.u64.wrap bt_ = (ub : Int) := by
   rw [← hub]
   have : 0 ≤ IntKind.u64.wrap bt_ := by rw [IntKind.wrap_u64]; omega
   omega
  obtain ⟨l8, hl8⟩ : ∃ z, 8 * lx = z := ⟨_, rfl⟩
  have lx3 := XM.out
  have u2 : IntKind.i64.wrap (8 * (lx : Int)) = (l8 : Int) := by rw [IntKind.wrap_i64]; omega
  have u3 : IntKind.u64.wrap (l8 : Int) = (l8 : Int) := by rw [IntKind.wrap_u64]; omega
  have u4 : ¬ (l8 : Int) = 0 := by omega
  have u4b : ¬ l8 = 0 := by omega
  obtain ⟨xx, hxx⟩ : ∃ z, ub % l8 = z := ⟨_, rfl⟩
  have xl : xx < l8 := by rw [← hxx]; exact Nat.mod_lt _ (by omega)
  have u5 : (ub : Int).tmod (l8 : Int) = (xx : Int) := by rw [← hxx]; rfl
  have u6 : IntKind.u64.wrap (xx : Int) = (xx : Int) := by rw [IntKind.wrap_u64]; omega
  have u7 : IntKind.i64.wrap (xx : Int) = (xx : Int) := by rw [IntKind.wrap_i64]; omega
  clear lx3 hub
  replace hl8 := Lib.hid hl8
  replace hxx := Lib.hid hxx
  replace xl := Lib.hid xl
  go_upto_region 13 with fail
  rename_i aK
  refine wp_region_seq ?_
  refine smv (.int .i64 bt_) rfl rfl rfl ?_
  simp only [AP]
  refine svl (.int .u64 (ub : Int)) (.inl ⟨by rfl, fun w' _ => by go_simp⟩) ?_
  simp only [AP]
  refine smv (.slice (some ⟨g9, 0, none⟩) lx c9) rfl rfl rfl ?_
  simp only [AP]
  refine svl (.int .i64 (lx : Int)) (.inl ⟨by rfl, fun w' _ => by go_simp⟩) ?_
  simp only [AP]
  refine svl (.int .i64 (l8 : Int)) (.inl ⟨by rfl, fun w' _ => by go_simp⟩) ?_
  simp only [AP]
  refine svl (.int .u64 (l8 : Int)) (.inl ⟨by rfl, fun w' _ => by go_simp⟩) ?_
  simp only [AP]
  refine svl (.int .u64 (xx : Int)) (.inl ⟨by rfl, fun w' _ => by go_simp⟩) ?_
  simp only [AP]
  refine svl (.int .i64 (xx : Int)) (.inl ⟨by rfl, fun w' _ => by go_simp⟩) ?_
  simp only [AP]
  refine sas (.int .i64 (xx : Int)) rfl rfl rfl ?_
  simp only [AP]
  refine wpSeq_nil ?_
  refine (by assumption : ∀ (a : Act) (w : World), _ → _) _ _ ?_
  clear u1 u2 u3 u4 u4b u5 u6 u7
  obtain ⟨xi, hxi⟩ : ∃ z, xx / 8 = z := ⟨_, rfl⟩
  obtain ⟨xb, hxb⟩ : ∃ z, xx % 8 = z := ⟨_, rfl⟩
  have xil : xi < lx := by have := xl.out; have := hl8.out; omega
  have xb8 : xb < 8 := by omega
  have v1 : (xx : Int).tdiv 8 = (xi : Int) := by rw [← hxi]; rfl
  have v1b : (xx : Int) / 8 = (xi : Int) := by omega
  have v2 : (xx : Int).tmod 8 = (xb : Int) := by rw [← hxb]; rfl
  have v2b : (xx : Int) % 8 = (xb : Int) := by omega
  have v3 : IntKind.i64.wrap (xi : Int) = (xi : Int) := by rw [IntKind.wrap_i64]; have := XM.out; omega
  have v4 : IntKind.i64.wrap (xb : Int) = (xb : Int) := by rw [IntKind.wrap_i64]; omega
  obtain ⟨yv, hyv⟩ : ∃ z, X.getD xi 0 = z := ⟨_, rfl⟩
  have y8 : yv < 256 := by rw [← hyv]; exact getD_bytes XM.out.2.2.1 xi
  obtain ⟨sh, hsh⟩ : ∃ z, 2 ^ xb = z := ⟨_, rfl⟩
  have SH := Lib.hid (show (xb = 0 ∧ sh = 1) ∨ (xb = 1 ∧ sh = 2) ∨ (xb = 2 ∧ sh = 4) ∨ (xb = 3 ∧ sh = 8) ∨ (xb = 4 ∧ sh = 16) ∨ (xb = 5 ∧ sh = 32) ∨ (xb = 6 ∧ sh = 64) ∨ (xb = 7 ∧ sh = 128) by
   have : xb = 0 ∨ xb = 1 ∨ xb = 2 ∨ xb = 3 ∨ xb = 4 ∨ xb = 5 ∨ xb = 6 ∨ xb = 7 := by omega
   rcases this with rfl | rfl | rfl | rfl | rfl | rfl | rfl | rfl <;> simp [← hsh])
  have s8 : sh < 256 := by have := SH.out; omega
  have v5 : bits BinOp.xor IntKind.u8 (yv : Int) (sh : Int) = ((yv ^^^ sh : Nat) : Int) := xor_u8 yv sh y8 s8
  have bd := below_drew (Below.refl w10.heap.size w10)
  replace MLH := Lib.hid (MLH.out.step bd)
  replace O9 := Lib.hid (O9.out.below bd)
  clear bd hxi hxb hsh hl8 hxx xl
  have cx0 := (O9.out.at_cell xi (by rw [HX.out]; exact xil)).1
  have fx0 := (O9.out.at_cell xi (by rw [HX.out]; exact xil)).2
  rw [hyv] at cx0
  clear hyv
  go_upto_region 14 with fail
  rename_i aK
  refine wp_region_Z (S := fun w' => w'.cell? ⟨g9, xi, none⟩ = some (.int .u8 (yv : Int))) 10 (by kernel_rfl) ?_
  generalize World.drew w10 = w11 at *
  have hS := cx0
  refine wpAnyZ_takeL 0 (v := .slice (some ⟨g9, 0, none⟩) lx c9) rfl (by kernel_rfl) (by kernel_rfl) (by kernel_rfl) (by kernel_rfl) (by kernel_rfl) (fun _ _ _ H => H) (yieldsIf_move rfl _ rfl (.slice (some ⟨g9, 0, none⟩) lx c9) rfl) hS ?_
  simp only [AP]
  refine wpAnyZ_takeL 1 (v := .int .i64 (xx : Int)) rfl (by kernel_rfl) (by kernel_rfl) (by kernel_rfl) (by kernel_rfl) (by kernel_rfl) (fun _ _ _ H => H) (yieldsIf_move rfl _ rfl (.int .i64 (xx : Int)) rfl) hS ?_
  simp only [AP]
  refine wpAnyZ_takeL 2 (v := .int .i64 (xi : Int)) rfl (by kernel_rfl) (by kernel_rfl) (by kernel_rfl) (by kernel_rfl) (by kernel_rfl) (fun _ _ _ H => H) (Or.inl ⟨by rfl, fun w' hw' => by (go_simp; try omega)⟩) hS ?_
  simp only [AP]
  refine wpAnyZ_takeL 3 (v := .pointer (some ⟨g9, xi, none⟩)) rfl (by kernel_rfl) (by kernel_rfl) (by kernel_rfl) (by kernel_rfl) (by kernel_rfl) (fun _ _ _ H => H) (Or.inl ⟨by rfl, fun w' hw' => by (go_simp; try omega)⟩) hS ?_
  simp only [AP]
  refine wpAnyZ_takeL 4 (v := .int .u8 (yv : Int)) rfl (by kernel_rfl) (by kernel_rfl) (by kernel_rfl) (by kernel_rfl) (by kernel_rfl) (fun _ _ _ H => H) (Or.inl ⟨by rfl, fun w' hw' => by (have cc := hw'; go_simp)⟩) hS ?_
  simp only [AP]
  refine wpAnyZ_takeL 5 (v := .int .i64 (xx : Int)) rfl (by kernel_rfl) (by kernel_rfl) (by kernel_rfl) (by kernel_rfl) (by kernel_rfl) (fun _ _ _ H => H) (yieldsIf_move rfl _ rfl (.int .i64 (xx : Int)) rfl) hS ?_
  simp only [AP]
  refine wpAnyZ_takeL 6 (v := .int .i64 (xb : Int)) rfl (by kernel_rfl) (by kernel_rfl) (by kernel_rfl) (by kernel_rfl) (by kernel_rfl) (fun _ _ _ H => H) (Or.inl ⟨by rfl, fun w' hw' => by (go_simp; try omega)⟩) hS ?_
  simp only [AP]
  refine wpAnyZ_takeL 7 (v := .int .u8 (sh : Int)) rfl (by kernel_rfl) (by kernel_rfl) (by kernel_rfl) (by kernel_rfl) (by kernel_rfl) (fun _ _ _ H => H) (Or.inl ⟨by rfl, fun w' hw' => by (rcases SH.out with ⟨rfl, rfl⟩ | ⟨rfl, rfl⟩ | ⟨rfl, rfl⟩ | ⟨rfl, rfl⟩ | ⟨rfl, rfl⟩ | ⟨rfl, rfl⟩ | ⟨rfl, rfl⟩ | ⟨rfl, rfl⟩ <;> go_simp <;> try (first | omega | decide))⟩) hS ?_
  simp only [AP]
  refine wpAnyZ_takeL 8 (v := .int .u8 ((yv ^^^ sh : Nat) : Int)) rfl (by kernel_rfl) (by kernel_rfl) (by kernel_rfl) (by kernel_rfl) (by kernel_rfl) (fun _ _ _ H => H) (Or.inl ⟨by rfl, fun w' hw' => by go_simp⟩) hS ?_
  simp only [AP]
  refine wpAnyZ_takeL 9 (v := .pointer (some ⟨g9, xi, none⟩)) rfl (by kernel_rfl) (by kernel_rfl) (by kernel_rfl) (by kernel_rfl) (by kernel_rfl) (fun _ _ _ H => H) (Or.inl ⟨by rfl, fun w' hw' => by (go_simp; try omega)⟩) hS ?_
  simp only [AP]
  refine hzstep 10 rfl (by kernel_rfl) rfl ?_
  unfold Oper.wp execOp
  go_simp
  refine wpAnyZ_done (by kernel_rfl) ?_ _
  refine (by assumption : ∀ (a : Act) (w : World), _ → _) _ _ ?_
  have O10 := O9.out.put xi (yv ^^^ sh)
  have G10 := gb_cell1 w11 g9 xi (.int .u8 ((yv ^^^ sh : Nat) : Int))
  have ML10 : ML W CS2 OCV #[.int .i64 (q : Int), .slice pt m1 ct, .slice pf m2 cf] KC gh gk (w11.setCell ⟨g9, xi, none⟩ (.int .u8 ((yv ^^^ sh : Nat) : Int))) := ⟨MLH.out.cas.far (p := ⟨g9, xi, none⟩) (by show W.heap.size ≠ g9; have := NG.out; have := GK.out; omega) _, MLH.out.oth.far (p := ⟨g9, xi, none⟩) (by show W.heap.size + 1 ≠ g9; have := NG.out; have := GK.out; omega) _, MLH.out.hd.far (p := ⟨g9, xi, none⟩) (by show gh ≠ g9; have := NG.out; omega) _, MLH.out.ky.far (p := ⟨g9, xi, none⟩) (by show gk ≠ g9; have := NG.out; omega) _, MLH.out.bel.setCell (p := ⟨g9, xi, none⟩) (by show W.heap.size ≤ g9; have := NG.out; have := GK.out; omega) _⟩
  have xo8 : yv ^^^ sh < 256 := Nat.xor_lt_two_pow (n := 8) y8 s8
  clear O9 MLH cx0 fx0 hS v1 v1b v2 v2b v3 v4 v5 aK SH G10 xil xb8
  generalize World.setCell w11 _ _ = w12 at *
  have MLH := Lib.hid ML10
  clear ML10
  replace O10 := Lib.hid O10
  have XB := Lib.hid (set_bytes8 XM.out.2.2.1 xi (yv ^^^ sh) xo8)
  clear xo8 y8 s8
  by_cases s5 : z5 = 0
  ·
   skip
   obtain ⟨x1, x2, x3⟩ := d5.out
   go_upto_region 15 with fail
   rename_i aK
   refine wp_region_seq ?_
   refine smv (.int .u8 (wh : Int)) rfl rfl rfl ?_
   simp only [AP]
   refine svl (.int .u8 (z5 : Int)) (.inl ⟨by rfl, fun w' _ => by (go_simp; try omega)⟩) ?_
   simp only [AP]
   refine svl (.bool true) (.inl ⟨by rfl, fun w' _ => by (go_simp; try omega)⟩) ?_
   simp only [AP]
   refine wpSeq_nil ?_
   refine (by assumption : ∀ (a : Act) (w : World), _ → _) _ _ ?_
   clear x1 x2 x3
   go_upto_region 16 with fail
   rename_i aK
   refine wp_region_seq ?_
   refine smv (.int .u64 (p : Int)) rfl rfl rfl ?_
   simp only [AP]
   refine sas (.int .u64 (p : Int)) rfl rfl rfl ?_
   simp only [AP]
   refine wpSeq_nil ?_
   go_wp2
   exact AK _ (X.set xi (yv ^^^ sh)) _ _ _ _ _ _ _ _ _ _ _ _ _ _ _ _ _ _ _ _ _ _ _ _ _ _ _ _ _ _ _ _ _ _ _ _ _ _ _ _ _ _ _ _ _ _ _ _ MLH.out O10.out.sb (NEQ.out _) ⟨XB.out, (by rw [List.length_set, HX.out]; have := XM.out; omega), AEO.out.1, AEO.out.2, XM.out.2.2.2.2⟩
  ·
   skip
   obtain ⟨x1, x2, x3⟩ := d5.out
   go_upto_region 15 with fail
   rename_i aK
   refine wp_region_seq ?_
   refine smv (.int .u8 (wh : Int)) rfl rfl rfl ?_
   simp only [AP]
   refine svl (.int .u8 (z5 : Int)) (.inl ⟨by rfl, fun w' _ => by (go_simp; try omega)⟩) ?_
   simp only [AP]
   refine svl (.bool false) (.inl ⟨by rfl, fun w' _ => by (go_simp; try omega)⟩) ?_
   simp only [AP]
   refine wpSeq_nil ?_
   refine (by assumption : ∀ (a : Act) (w : World), _ → _) _ _ ?_
   clear x1 x2 x3
   go_wp2
   exact AK _ (X.set xi (yv ^^^ sh)) _ _ _ _ _ _ _ _ _ _ _ _ _ _ _ _ _ _ _ _ _ _ _ _ _ _ _ _ _ _ _ _ _ _ _ _ _ _ _ _ _ _ _ _ _ _ _ _ MLH.out O10.out.sb (NEQ.out _) ⟨XB.out, (by rw [List.length_set, HX.out]; have := XM.out; omega), AEO.out.1, AEO.out.2, NZ.out⟩
 ·
  skip
  obtain ⟨x1, x2, x3⟩ := d2.out
  go_upto_region 12 with fail
  rename_i aK
  refine wp_region_seq ?_
  refine smv (.int .u8 (wh : Int)) rfl rfl rfl ?_
  simp only [AP]
  refine svl (.int .u8 (z2 : Int)) (.inl ⟨by rfl, fun w' _ => by (go_simp; try omega)⟩) ?_
  simp only [AP]
  refine svl (.bool false) (.inl ⟨by rfl, fun w' _ => by (go_simp; try omega)⟩) ?_
  simp only [AP]
  refine wpSeq_nil ?_
  refine (by assumption : ∀ (a : Act) (w : World), _ → _) _ _ ?_
  clear x1 x2 x3
  by_cases s5 : z5 = 0
  ·
   skip
   obtain ⟨x1, x2, x3⟩ := d5.out
   go_upto_region 15 with fail
   rename_i aK
   refine wp_region_seq ?_
   refine smv (.int .u8 (wh : Int)) rfl rfl rfl ?_
   simp only [AP]
   refine svl (.int .u8 (z5 : Int)) (.inl ⟨by rfl, fun w' _ => by (go_simp; try omega)⟩) ?_
   simp only [AP]
   refine svl (.bool true) (.inl ⟨by rfl, fun w' _ => by (go_simp; try omega)⟩) ?_
   simp only [AP]
   refine wpSeq_nil ?_
   refine (by assumption : ∀ (a : Act) (w : World), _ → _) _ _ ?_
   clear x1 x2 x3
   go_upto_region 16 with fail
   rename_i aK
   refine wp_region_seq ?_
   refine smv (.int .u64 (p : Int)) rfl rfl rfl ?_
   simp only [AP]
   refine sas (.int .u64 (p : Int)) rfl rfl rfl ?_
   simp only [AP]
   refine wpSeq_nil ?_
   go_wp2
   exact AK _ X _ _ _ _ _ _ _ _ _ _ _ _ _ _ _ _ _ _ _ _ _ _ _ _ _ _ _ _ _ _ _ _ _ _ _ _ _ _ _ _ _ _ _ _ _ _ _ _ MLH.out O9.out.sb (NEQ.out _) ⟨XM.out.2.2.1, (by rw [HX.out]; have := XM.out; omega), AEO.out.1, AEO.out.2, XM.out.2.2.2.2⟩
  ·
   skip
   obtain ⟨x1, x2, x3⟩ := d5.out
   go_upto_region 15 with fail
   rename_i aK
   refine wp_region_seq ?_
   refine smv (.int .u8 (wh : Int)) rfl rfl rfl ?_
   simp only [AP]
   refine svl (.int .u8 (z5 : Int)) (.inl ⟨by rfl, fun w' _ => by (go_simp; try omega)⟩) ?_
   simp only [AP]
   refine svl (.bool false) (.inl ⟨by rfl, fun w' _ => by (go_simp; try omega)⟩) ?_
   simp only [AP]
   refine wpSeq_nil ?_
   refine (by assumption : ∀ (a : Act) (w : World), _ → _) _ _ ?_
   clear x1 x2 x3
   go_wp2
   exact AK _ X _ _ _ _ _ _ _ _ _ _ _ _ _ _ _ _ _ _ _ _ _ _ _ _ _ _ _ _ _ _ _ _ _ _ _ _ _ _ _ _ _ _ _ _ _ _ _ _ MLH.out O9.out.sb (NEQ.out _) ⟨XM.out.2.2.1, (by rw [HX.out]; have := XM.out; omega), AEO.out.1, AEO.out.2, NZ.out⟩
end Go.Proofs.YtpihgljdbpnehaaDoor
