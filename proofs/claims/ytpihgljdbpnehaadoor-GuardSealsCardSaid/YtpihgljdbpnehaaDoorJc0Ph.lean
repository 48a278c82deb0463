/- The law GuardSeals (printed by gen13/jb.py). What the program's guard reckons, as plain arithmetic. A Cipher's keys, one by one: sixteen bytes read out of its block, put into it; a Cipher built. -/
import Derived.Test.YtpihgljdbpnehaaDoorNf0HSb
import Derived.Test.YtpihgljdbpnehaaDoorNh
import Derived.Test.YtpihgljdbpnehaaDoorPg
import Derived.Laws.Tables
namespace Go.Proofs.YtpihgljdbpnehaaDoor
open Go.RowKit
theorem caseH_any (sp : Int) (to fr : List Nat) (pn ac : Nat) (r : Bool) (bt : Bytes to) (bf : Bytes fr) (ws : i64_ok sp) (hp : pn < 18446744073709551616) (ha : ac < 18446744073709551616) (lt : to.length ≤ 50) (lf : fr.length ≤ 50) : ∃ s2 to2 fr2 p a, caseH sp to fr pn ac r = ⟨s2, to2, fr2, p, a⟩ ∧ i64_ok s2 ∧ to2.length ≤ 100 ∧ fr2.length ≤ 100 ∧ Bytes to2 ∧ Bytes fr2 ∧ p < 18446744073709551616 ∧ a < 18446744073709551616 := by
  cases r with
  | false => exact ⟨sp, to, fr, pn, ac, rfl, ws, by omega, by omega, bt, bf, hp, ha⟩
  | true =>
    obtain ⟨q, t8, f8, p, a, h, q2, l1, l2, b1, b2, p62, ap, _⟩ := caseH_right sp to fr pn ac bt bf
    exact ⟨q, t8, f8, p, a, h, by unfold i64_ok; omega, by omega, by omega, b1, b2, by omega, by omega⟩
set_option maxHeartbeats 16000000 in
set_option maxRecDepth 100000 in
theorem gseals_c (OC : OfC) (FC : FirstC) (SC : GSealC) (s to fr bb : List Nat) (sp : Int) (pn ac : Nat) (r : Bool) (vt vf vb : Value) (W : World) (ls : s.length = 32) (bs : Bytes s) (ws : i64_ok sp) (bt : Bytes to) (bf : Bytes fr) (b3 : Bytes bb) (hp : pn < 18446744073709551616) (ha : ac < 18446744073709551616) (h1 : SB W vt to) (h2 : SB W vf fr) (h3 : SB W vb bb) (T : Tab W cuT) (Q : Sq W sqT) :
    Calls Tryd.prog 4 #[.agg (csA s (csT sp vt vf pn ac r vb))] W fun e w' => e = .returned (.bool true) ∧ Below W.heap.size W w' := by
  have AW := Lib.hid (fun w (h : Below W.heap.size W w) => gawake_c OC FC w (T.below h) (Q.below h))
  have OCC := Lib.hid (fun w (h : Below W.heap.size W w) => OC s ls bs w (T.below h) (Q.below h))
  have LCC := Lib.hid (fun w (h : Below W.heap.size W w) => clong_c s to fr bb sp pn ac r vt vf vb w ls (h1.below h) (h2.below h) (h3.below h))
  have HCC := Lib.hid (fun w (h : Below W.heap.size W w) (hm : to.length ≤ 50) (hn : fr.length ≤ 50) => chead_c s to fr sp pn ac r vt vf vb w ls hm hn hp ha (h1.below h) (h2.below h))
  obtain ⟨p3, c3, rfl⟩ := h3.shape
  obtain ⟨k3, hk3⟩ : ∃ k, bb.length = k := ⟨_, rfl⟩
  rw [hk3] at h3 LCC HCC ⊢
  have HL3 := Lib.hid hk3
  have L32 := Lib.hid ls
  have cz := fun (t : Array Value) (h : t.size = 7) => info_csz ls t h
  have BT := Lib.hid (And.intro bt bf)
  have WS := Lib.hid (And.intro ws (And.intro hp ha))
  have H3 := Lib.hid h3
  have B3 := Lib.hid b3
  clear T Q ls bs bt bf hk3 ws hp ha h1 h2 h3 b3 OC FC
  obtain ⟨CS, hCS⟩ : ∃ CS, csA s (csT sp vt vf pn ac r (.slice p3 k3 c3)) = CS := ⟨_, rfl⟩
  rw [hCS] at LCC ⊢
  have HCS := Lib.hid hCS
  have csz : (Tryd.prog.info? 40).map (·.size) = some CS.size := by rw [← hCS]; exact cz _ rfl
  clear hCS
  go_enter Tryd.func4, Tryd.ntmps4
  go_upto_region 0 with fail
  rename_i aK
  refine wp_region_seq ?_
  refine wpSeq_wp rfl ?_
  unfold Oper.wp execOp
  go_simp
  refine wpSeq_yield (S := fun _ => True) (yieldsIf_assign rfl _ rfl (.bool false) rfl) trivial ?_
  simp only [AP]
  refine wpSeq_nil ?_
  refine aK _ _ ?_
  clear aK
  have K := Blk.new W 40 CS
  have b := (Below.refl W.heap.size W).alloc (Nat.le_refl _) (.cells CS 40)
  generalize World.alloc W _ = w1 at *
  go_upto_region 1 with fail
  rename_i aK
  refine wp_region_seq ?_
  refine wpSeq_wp rfl ?_
  unfold Oper.wp execOp
  go_simp
  refine (AW.out w1 b).mono ?_
  rintro _ w2 ⟨rfl, b2⟩
  replace K := K.below' b2
  replace b := b.trans (b2.mono b.size)
  clear b2 AW
  go_simp
  refine wpSeq_yield (S := fun _ => True) (v := .bool false) (Or.inl ⟨by rfl, fun w' hw' => by go_simp⟩) trivial ?_
  simp only [AP]
  refine wpSeq_nil ?_
  refine (by assumption : ∀ (a : Act) (w : World), _ → _) _ _ ?_
  by_cases q1 : 50 < to.length ∨ 50 < fr.length ∨ 120 < k3
  · rw [decide_eq_true q1] at LCC
    go_upto_region 3 with fail
    rename_i aK
    refine wp_region_seq ?_
    refine wpSeq_yield (S := fun w' => w' = w2) (show YieldsIf _ _ _ _ (.agg CS) _ from yieldsIf_row_wanted (S := fun w' => w' = w2) rfl 40 _ rfl W.heap.size rfl 40 _ _ (fun _ h => h ▸ K) Tryd.underlying40 rfl csz) rfl ?_
    simp only [AP]
    refine wpSeq_wp rfl ?_
    unfold Oper.wp execOp
    go_simp
    refine (LCC.out w2 b).mono ?_
    rintro _ w3 ⟨rfl, bz⟩
    replace K := K.below' bz
    replace b := b.trans (bz.mono b.size)
    clear bz LCC
    go_simp
    refine wpSeq_nil ?_
    refine (by assumption : ∀ (a : Act) (w : World), _ → _) _ _ ?_
    go_upto_region 4 with fail
    rename_i aK
    refine wp_region_seq ?_
    refine wpSeq_yield (S := fun _ => True) (yieldsIf_assign rfl _ rfl (.bool true) rfl) trivial ?_
    simp only [AP]
    refine wpSeq_nil ?_
    refine (by assumption : ∀ (a : Act) (w : World), _ → _) _ _ ?_
    go_wp2
    go_ret
    exact ⟨rfl, b⟩
  rw [decide_eq_false q1] at LCC
  go_upto_region 3 with fail
  rename_i aK
  refine wp_region_seq ?_
  refine wpSeq_yield (S := fun w' => w' = w2) (show YieldsIf _ _ _ _ (.agg CS) _ from yieldsIf_row_wanted (S := fun w' => w' = w2) rfl 40 _ rfl W.heap.size rfl 40 _ _ (fun _ h => h ▸ K) Tryd.underlying40 rfl csz) rfl ?_
  simp only [AP]
  refine wpSeq_wp rfl ?_
  unfold Oper.wp execOp
  go_simp
  refine (LCC.out w2 b).mono ?_
  rintro _ w3 ⟨rfl, bz⟩
  replace K := K.below' bz
  replace b := b.trans (bz.mono b.size)
  clear bz LCC
  go_simp
  refine wpSeq_nil ?_
  refine (by assumption : ∀ (a : Act) (w : World), _ → _) _ _ ?_
  have HQ := Lib.hid (show to.length ≤ 50 ∧ fr.length ≤ 50 ∧ k3 ≤ 120 by omega)
  clear q1
  obtain ⟨s2, to2, fr2, p, a, hC, ws2, lt2, lf2, bt2, bf2, hp2, ha2⟩ := caseH_any sp to fr pn ac r BT.out.1 BT.out.2 WS.out.1 WS.out.2.1 WS.out.2.2 HQ.out.1 HQ.out.2.1
  replace HCC := Lib.hid (fun w (h : Below W.heap.size W w) => show Calls Tryd.prog 15 #[.agg (csA s (csT sp vt vf pn ac r (.slice p3 k3 c3)))] w fun e w' => ∃ vt vf, e = .returned (.tuple #[.agg #[.int .i64 s2, vt, vf], .int .u64 (p : Int), .int .u64 (a : Int)]) ∧ SB w' vt to2 ∧ SB w' vf fr2 ∧ Below w.heap.size w w' by
    have := HCC.out w h HQ.out.1 HQ.out.2.1
    rw [hC] at this
    exact this)
  rw [show csA s (csT sp vt vf pn ac r (.slice p3 k3 c3)) = CS from HCS.out] at HCC
  clear hC cz
  obtain ⟨Kk, hKk⟩ : ∃ k, keyG s = k := ⟨_, rfl⟩
  obtain ⟨Nn, hNn⟩ : ∃ k, nonG s = k := ⟨_, rfl⟩
  obtain ⟨Mm, hMm⟩ : ∃ k, masG s = k := ⟨_, rfl⟩
  have LN := Lib.hid (show (Kk.length = 16 ∧ Nn.length = 12 ∧ Mm.length = 16) ∧ Bytes Kk ∧ Bytes Nn ∧ Bytes Mm by
    rw [← hKk, ← hNn, ← hMm]
    exact ⟨⟨keyG_length s, nonG_length s, masG_length s⟩, keyG_bytes s, nonG_bytes s, masG_bytes s⟩)
  have hks : keysG s = Kk ++ (Nn ++ Mm) := by rw [← hKk, ← hNn, ← hMm]; rfl
  have KZ0 := keysG_size s
  have KO0 := u8s_one (keysG s)
  rw [hks] at OCC KZ0 KO0
  clear hks hKk hNn hMm
  obtain ⟨KC, hKC⟩ : ∃ KC, Iv .u8 (NI (Kk ++ (Nn ++ Mm))) = KC := ⟨_, rfl⟩
  rw [hKC] at OCC KZ0 KO0
  have HK := Lib.hid hKC
  have KZ := Lib.hid KZ0
  have KO := Lib.hid KO0
  clear hKC KZ0 KO0
  have SCC := Lib.hid (fun vt vf w h1 h2 h3 => SC Kk Nn Mm s2 to2 fr2 p a bb vt vf (.slice p3 k3 c3) LN.out.1.1 LN.out.1.2.1 LN.out.1.2.2 LN.out.2.1 LN.out.2.2.1 LN.out.2.2.2 ws2 bt2 bf2 lt2 lf2 hp2 ha2 B3.out (by rw [HL3.out]; have := HQ.out; omega) w h1 h2 h3)
  have RCC := Lib.hid (fun vt vf w h1 h2 h3 => sealed_c Kk Nn Mm LN.out.1.1 LN.out.1.2.1 LN.out.1.2.2 LN.out.2.1 LN.out.2.2.1 LN.out.2.2.2 s2 to2 fr2 p a bb vt vf (.slice p3 k3 c3) w lt2 lf2 bt2 bf2 hp2 ha2 B3.out (by rw [HL3.out]; have := HQ.out; omega) h1 h2 h3)
  rw [HK.out] at SCC RCC
  obtain ⟨G, hG⟩ : ∃ G, sealG Kk Nn Mm s2 to2 fr2 p a bb = G := ⟨_, rfl⟩
  rw [hG] at SCC RCC
  obtain ⟨code, X⟩ := G
  dsimp only at SCC RCC
  clear hG ws2 lt2 lf2 bt2 bf2 hp2 ha2 SC
  obtain ⟨m1, hm1⟩ : ∃ k, to2.length = k := ⟨_, rfl⟩
  obtain ⟨m2, hm2⟩ : ∃ k, fr2.length = k := ⟨_, rfl⟩
  go_upto_region 5 with fail
  rename_i aK
  refine wp_region_seq ?_
  refine wpSeq_yield (S := fun w' => w' = w3) (show YieldsIf _ _ _ _ (.agg CS) _ from yieldsIf_row_wanted (S := fun w' => w' = w3) rfl 40 _ rfl W.heap.size rfl 40 _ _ (fun _ h => h ▸ K) Tryd.underlying40 rfl csz) rfl ?_
  simp only [AP]
  refine wpSeq_wp rfl ?_
  unfold Oper.wp execOp
  go_simp
  refine (HCC.out w3 b).mono ?_
  rintro _ w5 ⟨vt2, vf2, rfl, S1, S2, b5⟩
  replace K := K.below' b5
  replace b := b.trans (b5.mono b.size)
  obtain ⟨pt, ct, rfl⟩ := S1.shape
  obtain ⟨pf, cf, rfl⟩ := S2.shape
  rw [hm1] at S1 ⊢
  rw [hm2] at S2 ⊢
  clear b5 HCC
  go_simp
  refine wpSeq_yield (S := fun _ => True) (yieldsIf_move rfl _ rfl (.tuple #[.agg #[.int .i64 s2, .slice pt m1 ct, .slice pf m2 cf], .int .u64 (p : Int), .int .u64 (a : Int)]) rfl) trivial ?_
  simp only [AP]
  refine wpSeq_yield (S := fun _ => True) (v := .agg #[.int .i64 s2, .slice pt m1 ct, .slice pf m2 cf]) (Or.inl ⟨by rfl, fun w' hw' => by go_simp⟩) trivial ?_
  simp only [AP]
  refine wpSeq_yield (S := fun _ => True) (v := .int .u64 (p : Int)) (Or.inl ⟨by rfl, fun w' hw' => by go_simp⟩) trivial ?_
  simp only [AP]
  refine wpSeq_yield (S := fun _ => True) (v := .int .u64 (a : Int)) (Or.inl ⟨by rfl, fun w' hw' => by go_simp⟩) trivial ?_
  simp only [AP]
  refine wpSeq_wp rfl ?_
  unfold Oper.wp execOp
  go_simp
  refine wpSeq_store_row rfl 42 _ _ rfl w5.heap.size _ rfl rfl _ _ (Blk.new w5 _ _) (by exact info_hd) rfl (cell_one _ _ _ _ _ _ _) ?_
  simp only [Act.put]
  refine wpSeq_yield (S := fun _ => True) (yieldsIf_assign rfl _ rfl (.int .u64 (p : Int)) rfl) trivial ?_
  simp only [AP]
  refine wpSeq_yield (S := fun _ => True) (yieldsIf_assign rfl _ rfl (.int .u64 (a : Int)) rfl) trivial ?_
  simp only [AP]
  refine wpSeq_nil ?_
  refine (by assumption : ∀ (a : Act) (w : World), _ → _) _ _ ?_
  generalize hw6 : World.setRow _ w5.heap.size _ = w6
  have F6 : Blk w6 w5.heap.size 42 #[.int .i64 s2, .slice pt m1 ct, .slice pf m2 cf] ∧ Below w5.heap.size w5 w6 := by
    rw [← hw6]
    exact one_row _ _ _ _
  clear hw6
  obtain ⟨KH, b6⟩ := F6
  have NG := Lib.hid (And.intro K.lt (Nat.le_refl w5.heap.size))
  replace K := K.below' b6
  replace b := b.trans (b6.mono b.size)
  replace S1 := S1.below b6
  replace S2 := S2.below b6
  clear b6
  obtain ⟨gh, hgh⟩ : ∃ g, w5.heap.size = g := ⟨_, rfl⟩
  rw [hgh] at KH ⊢
  clear hgh NG
  go_upto_region 6 with fail
  rename_i aK
  refine wp_region_seq ?_
  refine wpSeq_yield (S := fun _ => True) (v := .pointer (some ⟨W.heap.size, 0, none⟩)) (Or.inl ⟨by rfl, fun w' hw' => by (go_simp)⟩) trivial ?_
  simp only [AP]
  refine wpSeq_yield (S := fun w' => w' = w6) (show YieldsIf _ _ _ _ (.agg (Iv .u8 (NI s))) _ from yieldsIf_load_mid (S := fun w' => w' = w6) rfl 23 _ rfl W.heap.size 0 rfl ((NI s).map (Value.int .u8)) _ (fun _ h => h ▸ cs_key L32.out _ (show Blk w6 W.heap.size 40 (csA s (csT sp vt vf pn ac r (.slice p3 k3 c3))) by rw [HCS.out]; exact K)) Tryd.underlying23 rfl (by rw [info_key32]; simp [NI, L32.out])) rfl ?_
  simp only [AP]
  refine wpSeq_wp rfl ?_
  unfold Oper.wp execOp
  go_simp
  refine (OCC.out w6 b).mono ?_
  rintro _ w7 ⟨rfl, b7⟩
  replace K := K.below' b7
  replace KH := KH.below' b7
  replace b := b.trans (b7.mono b.size)
  replace S1 := S1.below b7
  replace S2 := S2.below b7
  clear b7 OCC
  go_simp
  refine wpSeq_wp rfl ?_
  unfold Oper.wp execOp
  go_simp
  refine wpSeq_store_row rfl 30 _ _ rfl w7.heap.size KC rfl rfl _ _ (Blk.new w7 _ _) (info_keys KC KZ.out) (by rw [KZ.out]; rfl) KO.out ?_
  simp only [Act.put]
  refine wpSeq_nil ?_
  refine (by assumption : ∀ (a : Act) (w : World), _ → _) _ _ ?_
  generalize hw8 : World.setRow _ w7.heap.size _ = w8
  have F8 : Blk w8 w7.heap.size 30 KC ∧ Below w7.heap.size w7 w8 := by
    rw [← hw8]
    exact one_row _ _ _ _
  clear hw8
  obtain ⟨KK, b8⟩ := F8
  replace K := K.below' b8
  replace KH := KH.below' b8
  replace b := b.trans (b8.mono b.size)
  replace S1 := S1.below b8
  replace S2 := S2.below b8
  clear b8
  obtain ⟨gk, hgk⟩ : ∃ g, w7.heap.size = g := ⟨_, rfl⟩
  rw [hgk] at KK ⊢
  clear hgk
  have C38 := (cs_cells (show Blk w8 W.heap.size 40 (csA s #[.int .i64 sp, vt, vf, .int .u64 (pn : Int), .int .u64 (ac : Int), .bool r, .slice p3 k3 c3]) by rw [show csA s #[.int .i64 sp, vt, vf, .int .u64 (pn : Int), .int .u64 (ac : Int), .bool r, .slice p3 k3 c3] = CS from HCS.out]; exact K) L32.out).2.2.2.2.2.2
  go_upto_region 7 with fail
  rename_i aK
  refine wp_region_seq ?_
  refine wpSeq_yield (S := fun w' => w' = w8) (show YieldsIf _ _ _ _ (.agg KC) _ from yieldsIf_row_wanted (S := fun w' => w' = w8) rfl 30 _ rfl gk rfl 30 _ _ (fun _ h => h ▸ KK) Tryd.underlying30 rfl (info_keys KC KZ.out)) rfl ?_
  simp only [AP]
  refine wpSeq_yield (S := fun w' => w' = w8) (load_hdS (S := fun w' => w' = w8) rfl _ rfl gh rfl s2 _ _ (fun _ h => h ▸ KH)) rfl ?_
  simp only [AP]
  refine wpSeq_yield (S := fun _ => True) (yieldsIf_move rfl _ rfl (.int .u64 (p : Int)) rfl) trivial ?_
  simp only [AP]
  refine wpSeq_yield (S := fun _ => True) (yieldsIf_move rfl _ rfl (.int .u64 (a : Int)) rfl) trivial ?_
  simp only [AP]
  refine wpSeq_yield (S := fun _ => True) (v := .pointer (some ⟨W.heap.size, 38, none⟩)) (Or.inl ⟨by rfl, fun w' hw' => by (go_simp)⟩) trivial ?_
  simp only [AP]
  refine wpSeq_yield (S := fun w' => w' = w8) (v := .slice p3 k3 c3) (Or.inl ⟨by rfl, fun w' hw' => by (rw [hw']; go_simp)⟩) rfl ?_
  simp only [AP]
  refine wpSeq_wp rfl ?_
  unfold Oper.wp execOp
  go_simp
  refine (SCC.out _ _ w8 S1 S2 (H3.out.below b)).mono ?_
  rintro _ w9 ⟨v9, rfl, O9, b9⟩
  replace K := K.below' b9
  replace KH := KH.below' b9
  replace KK := KK.below' b9
  replace S1 := S1.below b9
  replace S2 := S2.below b9
  have X9 := O9.sb
  replace b := b.trans (b9.mono b.size)
  clear b9 SCC C38 O9
  go_simp
  refine wpSeq_yield (S := fun _ => True) (yieldsIf_move rfl _ rfl (.tuple #[v9, .int .i64 (code : Int)]) rfl) trivial ?_
  simp only [AP]
  refine wpSeq_yield (S := fun _ => True) (v := v9) (Or.inl ⟨by rfl, fun w' hw' => by go_simp⟩) trivial ?_
  simp only [AP]
  refine wpSeq_yield (S := fun _ => True) (v := .int .i64 (code : Int)) (Or.inl ⟨by rfl, fun w' hw' => by go_simp⟩) trivial ?_
  simp only [AP]
  refine wpSeq_yield (S := fun _ => True) (yieldsIf_assign rfl _ rfl (v9) rfl) trivial ?_
  simp only [AP]
  refine wpSeq_yield (S := fun _ => True) (yieldsIf_assign rfl _ rfl (.int .i64 (code : Int)) rfl) trivial ?_
  simp only [AP]
  refine wpSeq_nil ?_
  refine (by assumption : ∀ (a : Act) (w : World), _ → _) _ _ ?_
  have C38 := (cs_cells (show Blk w9 W.heap.size 40 (csA s #[.int .i64 sp, vt, vf, .int .u64 (pn : Int), .int .u64 (ac : Int), .bool r, .slice p3 k3 c3]) by rw [show csA s #[.int .i64 sp, vt, vf, .int .u64 (pn : Int), .int .u64 (ac : Int), .bool r, .slice p3 k3 c3] = CS from HCS.out]; exact K) L32.out).2.2.2.2.2.2
  go_upto_region 8 with fail
  rename_i aK
  refine wp_region_seq ?_
  refine wpSeq_yield (S := fun w' => w' = w9) (show YieldsIf _ _ _ _ (.agg KC) _ from yieldsIf_row_wanted (S := fun w' => w' = w9) rfl 30 _ rfl gk rfl 30 _ _ (fun _ h => h ▸ KK) Tryd.underlying30 rfl (info_keys KC KZ.out)) rfl ?_
  simp only [AP]
  refine wpSeq_yield (S := fun w' => w' = w9) (load_hdS (S := fun w' => w' = w9) rfl _ rfl gh rfl s2 _ _ (fun _ h => h ▸ KH)) rfl ?_
  simp only [AP]
  refine wpSeq_yield (S := fun _ => True) (yieldsIf_move rfl _ rfl (.int .u64 (p : Int)) rfl) trivial ?_
  simp only [AP]
  refine wpSeq_yield (S := fun _ => True) (yieldsIf_move rfl _ rfl (.int .u64 (a : Int)) rfl) trivial ?_
  simp only [AP]
  refine wpSeq_yield (S := fun _ => True) (v := .pointer (some ⟨W.heap.size, 38, none⟩)) (Or.inl ⟨by rfl, fun w' hw' => by (go_simp)⟩) trivial ?_
  simp only [AP]
  refine wpSeq_yield (S := fun w' => w' = w9) (v := .slice p3 k3 c3) (Or.inl ⟨by rfl, fun w' hw' => by (rw [hw']; go_simp)⟩) rfl ?_
  simp only [AP]
  refine wpSeq_wp rfl ?_
  unfold Oper.wp execOp
  go_simp
  refine (RCC.out _ _ w9 S1 S2 (H3.out.below b)).mono ?_
  rintro _ w10 ⟨v10, rfl, X10, b10⟩
  replace X9 := X9.below b10
  replace b := b.trans (b10.mono b.size)
  clear b10 RCC C38 S1 S2 K KH KK
  go_simp
  refine wpSeq_yield (S := fun _ => True) (yieldsIf_move rfl _ rfl (.tuple #[v10, .int .i64 (code : Int)]) rfl) trivial ?_
  simp only [AP]
  refine wpSeq_yield (S := fun _ => True) (v := v10) (Or.inl ⟨by rfl, fun w' hw' => by go_simp⟩) trivial ?_
  simp only [AP]
  refine wpSeq_yield (S := fun _ => True) (v := .int .i64 (code : Int)) (Or.inl ⟨by rfl, fun w' hw' => by go_simp⟩) trivial ?_
  simp only [AP]
  refine wpSeq_yield (S := fun _ => True) (yieldsIf_assign rfl _ rfl (v10) rfl) trivial ?_
  simp only [AP]
  refine wpSeq_yield (S := fun _ => True) (yieldsIf_assign rfl _ rfl (.int .i64 (code : Int)) rfl) trivial ?_
  simp only [AP]
  refine wpSeq_nil ?_
  refine (by assumption : ∀ (a : Act) (w : World), _ → _) _ _ ?_
  go_upto_region 9 with fail
  rename_i aK
  refine wp_region_seq ?_
  refine wpSeq_yield (S := fun _ => True) (yieldsIf_move rfl _ rfl (.int .i64 (code : Int)) rfl) trivial ?_
  simp only [AP]
  refine wpSeq_yield (S := fun _ => True) (yieldsIf_move rfl _ rfl (.int .i64 (code : Int)) rfl) trivial ?_
  simp only [AP]
  refine wpSeq_yield (S := fun _ => True) (v := .bool true) (Or.inl ⟨by rfl, fun w' hw' => by go_simp⟩) trivial ?_
  simp only [AP]
  refine wpSeq_yield (S := fun _ => True) (yieldsIf_move rfl _ rfl (.bool true) rfl) trivial ?_
  simp only [AP]
  refine wpSeq_yield (S := fun _ => True) (yieldsIf_move rfl _ rfl (v9) rfl) trivial ?_
  simp only [AP]
  refine wpSeq_yield (S := fun w' => w' = w10) (yieldsIf_conv (S := fun w' => w' = w10) rfl _ rfl (v9) rfl (X) (fun w' h => h ▸ X9)) rfl ?_
  simp only [AP]
  refine wpSeq_yield (S := fun _ => True) (yieldsIf_move rfl _ rfl (v10) rfl) trivial ?_
  simp only [AP]
  refine wpSeq_yield (S := fun w' => w' = w10) (yieldsIf_conv (S := fun w' => w' = w10) rfl _ rfl (v10) rfl (X) (fun w' h => h ▸ X10)) rfl ?_
  simp only [AP]
  refine wpSeq_yield (S := fun _ => True) (yieldsIf_strB rfl _ _ rfl (X) (X) rfl rfl rfl) trivial ?_
  simp only [AP]
  refine wpSeq_yield (S := fun _ => True) (yieldsIf_pick rfl _ _ _ rfl true rfl (.bool true) rfl) trivial ?_
  simp only [AP]
  refine wpSeq_yield (S := fun _ => True) (yieldsIf_assign rfl _ rfl (.bool true) rfl) trivial ?_
  simp only [AP]
  refine wpSeq_nil ?_
  refine (by assumption : ∀ (a : Act) (w : World), _ → _) _ _ ?_
  go_wp2
  go_ret
  exact ⟨rfl, b⟩
end Go.Proofs.YtpihgljdbpnehaaDoor
namespace Go.Proofs.YtpihgljdbpnehaaDoor
open Go.RowKit
theorem nonK_stop (nn : List Nat) (pn j : Nat) (hj : j ≤ 8) (h : pn / 256 ^ j = 0) : nonK nn pn j = nonceN nn pn := by
  unfold nonK nonceN
  refine List.map_congr_left fun i hi => ?_
  have hi12 := List.mem_range.1 hi
  by_cases c : 12 ≤ i + j
  · rw [if_pos c, if_neg (by omega)]
  · rw [if_neg c]
    by_cases i4 : i < 4
    · rw [if_pos i4]
    · rw [if_neg i4]
      have e : 256 ^ (11 - i) = 256 ^ j * 256 ^ (11 - i - j) := by rw [← Nat.pow_add]; congr 1; omega
      rw [e, ← Nat.div_div_eq_div_mul, h, Nat.zero_div, Nat.zero_mod, Nat.xor_zero]
theorem and_high (f : Nat) (hf : f < 256) : bits BinOp.and IntKind.u8 (f : Int) 128 = if f < 128 then 0 else 128 := by
  have h := (by decide +kernel : ∀ m : Fin 256, bits BinOp.and IntKind.u8 ((m.val : Nat) : Int) 128 = if m.val < 128 then 0 else 128)
  exact h ⟨f, hf⟩
end Go.Proofs.YtpihgljdbpnehaaDoor
namespace Go.Proofs.YtpihgljdbpnehaaDoor
open Go.RowKit
/-- Numbers put into a list from a place on. -/
def setL : List Nat → Nat → List Nat → List Nat
  | l, _, [] => l
  | l, o, v :: r => setL (l.set o v) (o + 1) r
theorem setL_length : ∀ (vs : List Nat) (l : List Nat) (o : Nat), (setL l o vs).length = l.length
  | [], _, _ => rfl
  | v :: r, l, o => by
    show (setL (l.set o v) (o + 1) r).length = _
    rw [setL_length r, List.length_set]
theorem setL_get : ∀ (vs : List Nat) (l : List Nat) (o t : Nat), o + vs.length ≤ l.length → (setL l o vs).getD t 0 = if o ≤ t ∧ t < o + vs.length then vs.getD (t - o) 0 else l.getD t 0
  | [], l, o, t, _ => by
    show l.getD t 0 = _
    rw [if_neg (by simp only [List.length_nil]; omega)]
  | v :: r, l, o, t, h => by
    have hl : o + 1 + r.length ≤ (l.set o v).length := by rw [List.length_set]; simp only [List.length_cons] at h; omega
    show (setL (l.set o v) (o + 1) r).getD t 0 = _
    rw [setL_get r _ _ _ hl]
    simp only [List.length_cons] at h ⊢
    by_cases h1 : t = o
    · subst h1
      rw [if_neg (by omega), if_pos (by omega), Nat.sub_self, List.getD_eq_getElem?_getD, List.getElem?_set, if_pos rfl, if_pos (by omega)]
      rfl
    · by_cases h2 : o + 1 ≤ t ∧ t < o + 1 + r.length
      · rw [if_pos h2, if_pos (by omega), show t - o = (t - (o + 1)) + 1 by omega]
        rfl
      · rw [if_neg h2, if_neg (by omega), List.getD_eq_getElem?_getD, List.getElem?_set, if_neg (fun e => h1 e.symm), ← List.getD_eq_getElem?_getD]
theorem getD_ext {a b : List Nat} (hl : a.length = b.length) (h : ∀ t, t < a.length → a.getD t 0 = b.getD t 0) : a = b := by
  apply List.ext_getElem hl
  intro i h1 h2
  have := h i h1
  rw [List.getD_eq_getElem?_getD, List.getD_eq_getElem?_getD, List.getElem?_eq_getElem h1, List.getElem?_eq_getElem h2] at this
  exact this
theorem getD_app (a b : List Nat) (t : Nat) : (a ++ b).getD t 0 = if t < a.length then a.getD t 0 else b.getD (t - a.length) 0 := by
  by_cases h : t < a.length
  · rw [if_pos h, List.getD_eq_getElem?_getD, List.getElem?_append_left h, ← List.getD_eq_getElem?_getD]
  · rw [if_neg h, List.getD_eq_getElem?_getD, List.getElem?_append_right (by omega), ← List.getD_eq_getElem?_getD]
/-- The cells of bytes. -/
def cl (l : List Nat) : List Value := (NI l).map (Value.int .u8)
theorem cl_iv (l : List Nat) : (cl l).toArray = Iv .u8 (NI l) := rfl
theorem iv_cl (l : List Nat) : (Iv .u8 (NI l)).toList = cl l := by simp [Iv, cl]
theorem cl_length (l : List Nat) : (cl l).length = l.length := by simp [cl, NI]
theorem cl_get (l : List Nat) (j : Nat) (v : Value) (h : (cl l)[j]? = some v) : j < l.length ∧ v = .int .u8 ((l.getD j 0 : Nat) : Int) := by
  have hj : j < (cl l).length := (List.getElem?_eq_some_iff.1 h).1
  rw [cl_length] at hj
  refine ⟨hj, ?_⟩
  rw [List.getElem?_eq_getElem (by rw [cl_length]; exact hj)] at h
  simp only [Option.some.injEq] at h
  rw [← h]
  simp [cl, NI, List.getD_eq_getElem?_getD, hj]
theorem blk_setCells {t : TypeId} {g : Nat} : ∀ (vs l : List Nat) (o : Nat) (w : World), Blk w g t (Iv .u8 (NI l)) → Blk (w.setCells g o (cl vs)) g t (Iv .u8 (NI (setL l o vs)))
  | [], _, _, _, h => h
  | v :: r, l, o, w, h => by
    show Blk ((w.setCell ⟨g, o, none⟩ (.int .u8 ((v : Nat) : Int))).setCells g (o + 1) (cl r)) g t (Iv .u8 (NI (setL (l.set o v) (o + 1) r)))
    refine blk_setCells r _ _ _ ?_
    have h1 := Blk.set h o (.int .u8 ((v : Nat) : Int))
    rwa [ni_setIf] at h1
theorem blk_setCells_far {t : TypeId} {g k : Nat} {cs : Array Value} (hk : k ≠ g) : ∀ (vs : List Value) (o : Nat) (w : World), Blk w k t cs → Blk (w.setCells g o vs) k t cs
  | [], _, _, h => h
  | v :: r, o, _w, h => blk_setCells_far hk r (o + 1) _ (Blk.far (p := ⟨g, o, none⟩) h hk v)
theorem below_setCells' {B g : Nat} {w0 : World} (hg : B ≤ g) : ∀ (vs : List Value) (o : Nat) (w : World), Below B w0 w → Below B w0 (w.setCells g o vs)
  | [], _, _, h => h
  | v :: r, o, _w, h => below_setCells' hg r (o + 1) _ (h.setCell (p := ⟨g, o, none⟩) hg v)
/-- The keys' bytes, as far as n of them are put. -/
def KM (S k : List Nat) (n : Nat) : List Nat := (List.range 176).map fun t => if t < 16 * n then (ksF S k (t / 16)).1.getD (t % 16) 0 else 0
theorem KM_length (S k : List Nat) (n : Nat) : (KM S k n).length = 176 := by simp [KM]
theorem KM_get (S k : List Nat) (n t : Nat) (h : t < 176) : (KM S k n).getD t 0 = if t < 16 * n then (ksF S k (t / 16)).1.getD (t % 16) 0 else 0 := by
  simp [KM, List.getD_eq_getElem?_getD, List.getElem?_map, List.getElem?_range h]
theorem KM_zero (S k : List Nat) : KM S k 0 = List.replicate 176 0 := by
  refine getD_ext (by rw [KM_length, List.length_replicate]) fun t ht => ?_
  rw [KM_length] at ht
  rw [KM_get _ _ _ _ ht, if_neg (by omega), List.getD_eq_getElem?_getD, List.getElem?_replicate, if_pos ht]
  rfl
theorem KM_next (S k T : List Nat) (hk : k.length = 16) (n : Nat) (hn : n < 11) : setL (KM S k n ++ T) (16 * n) (ksF S k n).1 = KM S k (n + 1) ++ T := by
  have l1 := KM_length S k n
  have l2 := KM_length S k (n + 1)
  have l3 := ksF_length (S := S) hk n
  refine getD_ext (by rw [setL_length, List.length_append, List.length_append, l1, l2]) fun t ht => ?_
  rw [setL_get _ _ _ _ (by rw [List.length_append]; omega), getD_app, getD_app, l1, l2, l3]
  by_cases h : t < 176
  · rw [if_pos h, if_pos h, KM_get _ _ _ _ h, KM_get _ _ _ _ h]
    by_cases h1 : 16 * n ≤ t ∧ t < 16 * n + 16
    · rw [if_pos h1, if_pos (by omega), show t / 16 = n by omega, show t % 16 = t - 16 * n by omega]
    · rw [if_neg h1]
      by_cases h2 : t < 16 * n
      · rw [if_pos h2, if_pos (by omega)]
      · rw [if_neg h2, if_neg (by omega)]
  · rw [if_neg h, if_neg h, if_neg (by omega)]
/-- A key of a Cipher. -/
theorem CI.key {w : World} {g : Nat} {S k T : List Nat} {n : Nat} (h : CI w g (KM S k n) T) (hk : k.length = 16) (i : Nat) (hi : i < n) (hn : n ≤ 11) : w.rangeAt g (16 * i) (cl (ksF S k i).1) := fun j v hv => by
  obtain ⟨hj, rfl⟩ := cl_get _ _ _ hv
  rw [ksF_length hk] at hj
  rw [Blk.cell h, NI_get _ _ (by rw [List.length_append, KM_length]; omega)]
  have e : (KM S k n ++ T).getD (16 * i + j) 0 = (ksF S k i).1.getD j 0 := by
    rw [getD_app, KM_length, if_pos (by omega), KM_get _ _ _ _ (by omega), if_pos (by omega), show (16 * i + j) / 16 = i by omega, show (16 * i + j) % 16 = j by omega]
  rw [← e, List.getD_eq_getElem?_getD, List.getElem?_eq_getElem (show 16 * i + j < (KM S k n ++ T).length by rw [List.length_append, KM_length]; omega)]
  rfl
theorem CI.there {w : World} {g : Nat} {ks T : List Nat} (h : CI w g ks T) (lk : ks.length = 176) (o : Nat) (ho : o + 16 ≤ 176) : w.there g o 16 := fun j hj => by
  refine ⟨?_, Blk.frozen h _⟩
  rw [Blk.cell h, NI_get _ _ (by rw [List.length_append]; omega)]
  rfl
theorem CI.put {w : World} {g : Nat} {S k T : List Nat} {n : Nat} (h : CI w g (KM S k n) T) (hk : k.length = 16) (hn : n < 11) : CI (w.setCells g (16 * n) (cl (ksF S k n).1)) g (KM S k (n + 1)) T := by
  have := blk_setCells (ksF S k n).1 _ (16 * n) w h
  rw [KM_next _ _ _ hk n hn] at this
  exact this
theorem info_mid (l : List Nat) (h : l.length = 16) : (Tryd.prog.info? 27).map (·.size) = some (cl l).length := by
  rw [cl_length, h]
  kernel_rfl
/-- A Cipher built of its Subs. -/
theorem fold_setL : ∀ (S l : List Nat) (off j : Nat), ((cl S).zipIdx j).foldl (fun cs (p : Value × Nat) => cs.setIfInBounds (off + p.2) p.1) (Iv .u8 (NI l)) = Iv .u8 (NI (setL l (off + j) S))
  | [], _, _, _ => rfl
  | v :: r, l, off, j => by
    show ((cl r).zipIdx (j + 1)).foldl _ ((Iv .u8 (NI l)).setIfInBounds (off + j) (.int .u8 ((v : Nat) : Int))) = _
    rw [ni_setIf, fold_setL r _ off (j + 1)]
    rfl
def zC : List Nat := List.replicate 432 0
theorem ciph_zero : (Tryd.prog.info? 114).bind (fun i => i.zero) = some (.agg (Iv .u8 (NI zC))) := by kernel_rfl
theorem ciph_places : (match Tryd.prog.underlying 114 with | some (.struct fields) => fields.toList.mapM (fun f => (Tryd.prog.info? f.type).map fun i => (f.offset, i.size)) | _ => none) = some [(0, 176), (176, 256)] := by kernel_rfl
theorem ciph_und : ∃ fields, Tryd.prog.underlying 114 = some (.struct fields) := ⟨_, Tryd.underlying114⟩
set_option maxRecDepth 100000 in
theorem run_ciph (w : World) (S : List Nat) (lS : S.length = 256) : (Instr.build 114 #[(1, .agg (Iv .u8 (NI S)))]).run Tryd.prog w = .ok (.agg (Iv .u8 (NI (List.replicate 176 0 ++ S)))) w := by
  refine run_build w 114 _ _ ?_
  unfold Program.built
  have h1 := ciph_zero
  have h2 := ciph_places
  obtain ⟨fields, hu⟩ := ciph_und
  rw [hu] at h2 ⊢
  simp only at h2
  cases hi : Tryd.prog.info? 114 with
  | none => rw [hi] at h1; cases h1
  | some it =>
    rw [hi] at h1
    simp only [Option.bind_some] at h1
    simp only [h1, h2]
    have e := fold_setL S zC 176 0
    have e2 : setL zC 176 S = List.replicate 176 0 ++ S := by
      have lz : zC.length = 432 := List.length_replicate
      refine getD_ext (by rw [setL_length, List.length_append, List.length_replicate, lS, lz]) fun t ht => ?_
      rw [setL_length, lz] at ht
      rw [setL_get _ _ _ _ (by omega), getD_app, List.length_replicate]
      by_cases h : t < 176
      · rw [if_neg (by omega), if_pos h]
        unfold zC
        rw [List.getD_eq_getElem?_getD, List.getD_eq_getElem?_getD, List.getElem?_replicate, List.getElem?_replicate, if_pos ht, if_pos h]
      · rw [if_pos (by omega), if_neg h]
    rw [Nat.add_zero, e2] at e
    have hsz : (Iv .u8 (NI S)).size = 256 := by rw [Iv_size, NI_length, lS]
    have hz : (Iv .u8 (NI zC)).size = 432 := by rw [Iv_size, NI_length]; exact List.length_replicate
    simp only [Instr.fill, Value.cells, List.getElem?_toArray, List.getElem?_cons_succ, List.getElem?_cons_zero, hsz, hz]
    rw [if_neg (by decide)]
    congr 1
    have ez : (Iv .u8 (NI S)).zipIdx = ((cl S).zipIdx 0).toArray := by rw [← cl_iv]; simp
    rw [ez, List.foldl_toArray]
    exact e
end Go.Proofs.YtpihgljdbpnehaaDoor
