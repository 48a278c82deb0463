/- The program's shown: its contract (printed by gen13/qd.py). The program's block: a polynomial as a block; its contract. -/
import Derived.Test.YtpihgljdbpnehaaDoorQb0Qc
import Derived.Test.YtpihgljdbpnehaaDoorWa0Wc
namespace Go.Proofs.YtpihgljdbpnehaaDoor
open Go.RowKit
/-- What a head is shown as. -/
structure Shown (Mk x : List Nat) (a bits f n s : Nat) (ah : List Nat) : Prop where
 hb : bits = bitG (x.getD 0 0)
 hf : f = x.getD 0 0 ^^^ ((maskN Mk a x).getD 0 0 &&& bits)
 hn : n = f % 4 + 1
 hah : ah = hidN (maskN Mk a x) a n bits (x.take (a + n))
 hs : s = beN 0 (ah.drop a)
set_option maxHeartbeats 16000000 in
set_option maxRecDepth 100000 in
theorem shown_c (K N Mk : List Nat) (lK : K.length = 16) (lN : N.length = 12) (lM : Mk.length = 16) (bM : Bytes Mk) (x : List Nat) (bx : Bytes x) (p : Option Addr) (n c a : Nat) (ha : 1 ≤ a) (h20 : a + 20 ≤ n) (hn : n ≤ 1000) (W : World) (hb : SB W (.slice p n c) x) (bits f m s : Nat) (ah : List Nat) (hs : Shown Mk x a bits f m s ah) :
  Calls Tryd.prog 37 #[.agg (Iv .u8 (NI (K ++ (N ++ Mk)))), .slice p n c, .int .i64 (a : Int)] W fun e w' => ∃ v, e = .returned (.tuple #[v, .int .u64 (s : Int)]) ∧ OwL W.heap.size w' v ah ∧ Below W.heap.size W w' := by
 have ln := hb.len
 obtain ⟨g0, q, rfl, hA⟩ : ∃ g o, p = some ⟨g, o, none⟩ ∧ BA W g o x := by
  rcases hb.at_ with h0 | h0
  · omega
  · exact h0
 have et := tail_eq g0 q a n c (by omega)
 have hT := hb.tail a (by omega)
 rw [et] at hT
 obtain ⟨E, hE⟩ : ∃ E, maskN Mk a x = E := ⟨_, rfl⟩
 have hE2 : encL boxL Mk (((x.drop a).drop 4).take 16) = E := by
  rw [← hE, List.drop_drop]
  rfl
 have MC := fun (W : World) (h : SB W (.slice (some ⟨g0, q + a, none⟩) (n - a) (c - a)) (x.drop a)) => mask_c K N Mk lK lN lM bM (x.drop a) (bx.drop a) (some ⟨g0, q + a, none⟩) (n - a) (c - a) (by omega) W h
 rw [hE2] at MC
 replace MC := Lib.hid MC
 have E16 : E.length = 16 := by rw [← hE2]; exact encL_length _ _
 have bE : Bytes E := by
  rw [← hE2]
  exact encL_bytes bM (((bx.drop a).drop 4).take 16)
 obtain ⟨hbits, hf, hm, hah, hss⟩ := hs
 rw [hE] at hf hah
 obtain ⟨X, hX⟩ : ∃ X, x.take (a + 4) = X := ⟨_, rfl⟩
 have lX : X.length = a + 4 := by rw [← hX, List.length_take]; omega
 have bX : Bytes X := by rw [← hX]; exact bx.take _
 have X0 : X.getD 0 0 = x.getD 0 0 := by
  rw [← hX, List.getD_eq_getElem?_getD, List.getElem?_take, if_pos (by omega), ← List.getD_eq_getElem?_getD]
 have m4 : m ≤ 4 := by omega
 have XT : X.take (a + m) = x.take (a + m) := by rw [← hX, List.take_take, Nat.min_eq_left (by omega)]
 rw [← XT] at hah
 rw [← X0] at hf hbits
 have CC := fun (W : World) (h : SB W (.slice (some ⟨g0, q, none⟩) (a + 4) c) X) => clone_c X (some ⟨g0, q, none⟩) (a + 4) c (by omega) W h
 replace CC := Lib.hid CC
 have hH := Lib.hid (show SB W (.slice (some ⟨g0, q, none⟩) (a + 4) c) X from hX ▸ hb.head (a + 4) (by omega))
 have B31 := bitG_is (X.getD 0 0)
 rw [← hbits] at B31
 obtain ⟨x0, hx0⟩ : ∃ x0, X.getD 0 0 = x0 := ⟨_, rfl⟩
 obtain ⟨m0, hm0⟩ : ∃ m0, E.getD 0 0 = m0 := ⟨_, rfl⟩
 have x8 : x0 < 256 := by rw [← hx0]; exact getD_bytes bX 0
 have m8 : m0 < 256 := by rw [← hm0]; exact getD_bytes bE 0
 have HZ := hidN_zero E a bits X (by omega)
 rw [hx0, hm0] at HZ hf
 rw [hx0] at hbits
 rw [← hf] at HZ
 have f8 : f < 256 := by rw [hf]; exact Nat.xor_lt_two_pow (n := 8) x8 (Nat.lt_of_le_of_lt Nat.and_le_left m8)
 have HC := fun (W : World) => hidden_c x0 x8 W
 rw [← hbits] at HC
 replace HC := Lib.hid HC
 have f1 : Go.bits BinOp.and IntKind.u8 (m0 : Int) (bits : Int) = ((m0 &&& bits : Nat) : Int) := and_low m0 bits m8 B31
 have f2 : Go.bits BinOp.xor IntKind.u8 (x0 : Int) ((m0 &&& bits : Nat) : Int) = (f : Int) := by rw [xor_u8 _ _ x8 (Nat.lt_of_le_of_lt Nat.and_le_left m8), hf]
 have f3 : Go.bits BinOp.and IntKind.u8 (f : Int) 3 = ((f % 4 : Nat) : Int) := and_three f f8
 generalize hfm : f % 4 = fm at *
 have lA := Lib.hid (show a ≤ n ∧ a + 20 ≤ n ∧ n ≤ c ∧ n ≤ 1000 ∧ 1 ≤ a ∧ m = fm + 1 ∧ m ≤ 4 by omega)
 have HE := Lib.hid hE
 have S0 := Lib.hid hss
 have S1 := Lib.hid hah
 have S2 := Lib.hid hx0
 have S3 := Lib.hid hm0
 have S4 := Lib.hid HZ
 have S5 := Lib.hid hT
 have S6 := Lib.hid (And.intro lX (And.intro bX (And.intro E16 bE)))
 have kz := Lib.hid (keys_size lK lN lM)
 have e4 : IntKind.i64.wrap ((a : Int) + 4) = ((a + 4 : Nat) : Int) := by rw [IntKind.wrap_i64]; omega
 have e5 : IntKind.i64.wrap ((a : Int) + ((fm : Nat) : Int)) = ((a + fm : Nat) : Int) := by rw [IntKind.wrap_i64]; omega
 have e6 : IntKind.i64.wrap ((a : Int) + (fm : Int) + 1) = (a : Int) + (m : Int) := by rw [IntKind.wrap_i64]; omega
 have fw : IntKind.i64.wrap (fm : Int) = (fm : Int) := by rw [IntKind.wrap_i64]; omega
 clear lK lN lM bM hb hA hE hE2 hss hah hx0 hm0 HZ hf hbits hX lX bX X0 XT E16 bE hT bx hfm hm m4 f8 x8 m8 B31 h20 hn ha ln
 obtain ⟨KC, hKC⟩ : ∃ KC, Iv .u8 (NI (K ++ (N ++ Mk))) = KC := ⟨_, rfl⟩
 rw [hKC] at kz MC ⊢
 clear hKC
 go_enter Tryd.func37, Tryd.ntmps37
 go_upto_region 0 with fail
 rename_i aK
 refine wp_region_seq ?_
 refine wpSeq_wp rfl ?_
 unfold Oper.wp execOp
 go_simp
 refine sas (.slice none 0 0) rfl rfl rfl ?_
 simp only [AP]
 refine sas (.int .u64 0) rfl rfl rfl ?_
 simp only [AP]
 refine wpSeq_nil ?_
 refine aK _ _ ?_
 clear aK
 have K0 := Blk.new W 30 KC
 have b0 := (Below.refl W.heap.size W).alloc (Nat.le_refl _) (.cells KC 30)
 generalize World.alloc W _ = w1 at *
 replace hH := Lib.hid (hH.out.below b0)
 replace S5 := Lib.hid (S5.out.below b0)
 go_upto_region 1 with fail
 rename_i KK aK
 have AK : ∀ (gm : Nat) (w' : World), w1.heap.size ≤ gm → Blk w' gm 27 (Iv .u8 (NI E)) → Below w1.heap.size w1 w' → KK { tmps := #[.agg KC, .slice (some ⟨g0, q, none⟩) n c, .int .i64 (a : Int), .pointer (some ⟨W.heap.size, 0, none⟩), undef, undef, .slice none 0 0, .int .u64 0, .pointer (some ⟨gm, 0, none⟩), undef, undef, .agg KC, .slice (some ⟨g0, q, none⟩) n c, .int .i64 (a : Int), .slice (some ⟨g0, q + a, none⟩) (n - a) (c - a), .agg (Iv .u8 (NI E)), undef, undef, undef, undef, undef, undef, undef, undef, undef, undef, undef, undef, undef, undef, undef, undef, undef, undef, undef, undef, undef, undef, undef, undef, undef, undef, undef, undef, undef, undef, undef, undef, undef, undef, undef, undef, undef, undef, undef, undef, undef, undef, undef, undef, undef, undef, undef, undef], defers := [] } w' := by
  intro gm w3 lgm MB b3
  refine aK _ _ ?_
  clear aK MC S5
  have LG := Lib.hid (show W.heap.size < gm from Nat.lt_of_lt_of_le K0.lt lgm)
  replace hH := Lib.hid (hH.out.below b3)
  have b1 := b0.trans (b3.mono b0.size)
  clear b3 b0 K0 lgm
  go_upto_region 2 with fail
  rename_i aK
  refine wp_region_seq ?_
  refine smv (.slice (some ⟨g0, q, none⟩) n c) rfl rfl rfl ?_
  simp only [AP]
  refine smv (.int .i64 (a : Int)) rfl rfl rfl ?_
  simp only [AP]
  refine svl (.int .i64 ((a + 4 : Nat) : Int)) (.inl ⟨by rfl, fun w' _ => by go_simp⟩) ?_
  simp only [AP]
  refine wpSeq_yield (S := fun _ => True) (yieldsIf_head rfl _ _ rfl (some ⟨g0, q, none⟩) n c (a + 4) rfl rfl (by have := lA.out; omega)) trivial ?_
  simp only [AP]
  refine wpSeq_wp rfl ?_
  unfold Oper.wp execOp
  go_simp
  refine (CC.out w3 hH.out).mono ?_
  rintro _ w4 ⟨v4, rfl, O4, b4⟩
  have MB3 := MB.lt
  replace MB := MB.below' b4
  have b1z := b1.size
  have b5 := b1.trans (b4.mono b1.size)
  rcases O4.row with ⟨_, e⟩ | ⟨g, cx, hv4, lg, lc, _, A4, _⟩
  ·
   have : X.length = 0 := by rw [e]; rfl
   have := S6.out.1
   omega
  rw [S6.out.1] at hv4 lc
  subst hv4
  have NG := Lib.hid (show gm ≠ g ∧ W.heap.size ≤ g ∧ a + 4 ≤ cx by exact ⟨by omega, by omega, lc⟩)
  clear A4 lg lc b4 CC hH
  go_simp
  refine sas (.slice (some ⟨g, 0, none⟩) (a + 4) cx) rfl rfl rfl ?_
  simp only [AP]
  refine wpSeq_nil ?_
  refine (by assumption : ∀ (a : Act) (w : World), _ → _) _ _ ?_
  replace O4 := O4.mono (show W.heap.size ≤ w3.heap.size from b1z)
  have bd := below_drew (Below.refl w4.heap.size w4)
  replace O4 := O4.below bd
  replace MB := MB.below' bd
  replace b5 := b5.trans (bd.mono b5.size)
  clear bd b1 b1z MB3
  go_upto_region 3 with fail
  rename_i aK
  refine wp_region_Z (S := fun w' => Below w4.drew.heap.size w4.drew w') 12 (by kernel_rfl) ?_
  generalize w4.drew = w5 at *
  have hS := Below.refl w5.heap.size w5
  have C0 := Lib.hid (fun (w' : World) (h : Below w5.heap.size w5 w') => show w'.cell? ⟨g, 0, none⟩ = some (.int .u8 (x0 : Int)) by have := ((O4.below h).at_cell 0 (by rw [S6.out.1]; omega)).1; rw [S2.out] at this; exact this)
  have C1 := Lib.hid (fun (w' : World) (h : Below w5.heap.size w5 w') => cell_list (MB.below' h) 0 m0 (by rw [S6.out.2.2.1]; omega) S3.out)
  refine wpAnyZ_takeL 0 (v := .slice (some ⟨g, 0, none⟩) (a + 4) cx) rfl (by kernel_rfl) (by kernel_rfl) (by kernel_rfl) (by kernel_rfl) (by kernel_rfl) (fun _ _ _ H => H) (yieldsIf_move rfl _ rfl (.slice (some ⟨g, 0, none⟩) (a + 4) cx) rfl) hS ?_
  simp only [AP]
  refine wpAnyZ_takeL 1 (v := .pointer (some ⟨g, 0, none⟩)) rfl (by kernel_rfl) (by kernel_rfl) (by kernel_rfl) (by kernel_rfl) (by kernel_rfl) (fun _ _ _ H => H) (Or.inl ⟨by rfl, fun w' hw' => by (go_simp; try omega)⟩) hS ?_
  simp only [AP]
  refine wpAnyZ_takeL 2 (v := .int .u8 (x0 : Int)) rfl (by kernel_rfl) (by kernel_rfl) (by kernel_rfl) (by kernel_rfl) (by kernel_rfl) (fun _ _ _ H => H) (Or.inl ⟨by rfl, fun w' hw' => by (have cc := C0.out w' hw'; go_simp)⟩) hS ?_
  simp only [AP]
  refine wpAnyZ_takeL 3 (v := .pointer (some ⟨gm, 0, none⟩)) rfl (by kernel_rfl) (by kernel_rfl) (by kernel_rfl) (by kernel_rfl) (by kernel_rfl) (fun _ _ _ H => H) (Or.inl ⟨by rfl, fun w' hw' => by (go_simp; try omega)⟩) hS ?_
  simp only [AP]
  refine wpAnyZ_takeL 4 (v := .int .u8 (m0 : Int)) rfl (by kernel_rfl) (by kernel_rfl) (by kernel_rfl) (by kernel_rfl) (by kernel_rfl) (fun _ _ _ H => H) (Or.inl ⟨by rfl, fun w' hw' => by (have cc := C1.out w' hw'; go_simp)⟩) hS ?_
  simp only [AP]
  refine wpAnyZ_takeL 5 (v := .slice (some ⟨g, 0, none⟩) (a + 4) cx) rfl (by kernel_rfl) (by kernel_rfl) (by kernel_rfl) (by kernel_rfl) (by kernel_rfl) (fun _ _ _ H => H) (yieldsIf_move rfl _ rfl (.slice (some ⟨g, 0, none⟩) (a + 4) cx) rfl) hS ?_
  simp only [AP]
  refine wpAnyZ_takeL 6 (v := .pointer (some ⟨g, 0, none⟩)) rfl (by kernel_rfl) (by kernel_rfl) (by kernel_rfl) (by kernel_rfl) (by kernel_rfl) (fun _ _ _ H => H) (Or.inl ⟨by rfl, fun w' hw' => by (go_simp; try omega)⟩) hS ?_
  simp only [AP]
  refine wpAnyZ_takeL 7 (v := .int .u8 (x0 : Int)) rfl (by kernel_rfl) (by kernel_rfl) (by kernel_rfl) (by kernel_rfl) (by kernel_rfl) (fun _ _ _ H => H) (Or.inl ⟨by rfl, fun w' hw' => by (have cc := C0.out w' hw'; go_simp)⟩) hS ?_
  simp only [AP]
  refine hzstep 8 rfl (by kernel_rfl) rfl ?_
  unfold Oper.wp execOp
  go_simp
  refine (HC.out w5).mono ?_
  rintro _ w6 ⟨rfl, b6⟩
  refine ⟨b6, ?_⟩
  have hS6 := b6
  refine wpAnyZ_takeL 9 (v := .int .u8 ((m0 &&& bits : Nat) : Int)) rfl (by kernel_rfl) (by kernel_rfl) (by kernel_rfl) (by kernel_rfl) (by kernel_rfl) (fun _ _ _ H => H) (Or.inl ⟨by rfl, fun w' hw' => by go_simp⟩) hS6 ?_
  simp only [AP]
  refine wpAnyZ_takeL 10 (v := .int .u8 (f : Int)) rfl (by kernel_rfl) (by kernel_rfl) (by kernel_rfl) (by kernel_rfl) (by kernel_rfl) (fun _ _ _ H => H) (Or.inl ⟨by rfl, fun w' hw' => by go_simp⟩) hS6 ?_
  simp only [AP]
  refine wpAnyZ_takeL 11 (v := .pointer (some ⟨g, 0, none⟩)) rfl (by kernel_rfl) (by kernel_rfl) (by kernel_rfl) (by kernel_rfl) (by kernel_rfl) (fun _ _ _ H => H) (Or.inl ⟨by rfl, fun w' hw' => by (go_simp; try omega)⟩) hS6 ?_
  simp only [AP]
  have O6 := O4.below b6
  have MB6 := MB.below' b6
  have cx0 := C0.out w6 b6
  have fx0 := (O6.at_cell 0 (by rw [S6.out.1]; omega)).2
  have b7 := b5.trans (b6.mono b5.size)
  clear C0 C1 O4 MB b5 b6 hS hS6 HC
  refine hzstep 12 rfl (by kernel_rfl) rfl ?_
  unfold Oper.wp execOp
  go_simp
  refine wpAnyZ_done (by kernel_rfl) ?_ _
  refine (by assumption : ∀ (a : Act) (w : World), _ → _) _ _ ?_
  have O7 := O6.put 0 f
  rw [← S4.out] at O7
  have MB7 := MB6.far (p := ⟨g, 0, none⟩) NG.out.1 (.int .u8 (f : Int))
  have b8 := b7.setCell (p := ⟨g, 0, none⟩) (by show W.heap.size ≤ g; exact NG.out.2.1) (.int .u8 (f : Int))
  clear O6 MB6 b7 cx0 fx0 aK f1 f2
  generalize World.setCell w6 _ _ = w7 at *
  have HF : (hidN E a 0 bits X).getD 0 0 = f := by
   rw [S4.out, getD_put _ _ _ _ (by rw [S6.out.1]; omega), if_pos rfl]
  have c0 := (O7.at_cell 0 (by rw [hidN_length, S6.out.1]; omega)).1
  rw [HF] at c0
  clear HF
  go_upto_region 4 with fail
  rename_i aK
  refine wp_region_seq ?_
  refine smv (.slice (some ⟨g, 0, none⟩) (a + 4) cx) rfl rfl rfl ?_
  simp only [AP]
  refine smv (.int .i64 (a : Int)) rfl rfl rfl ?_
  simp only [AP]
  refine smv (.slice (some ⟨g, 0, none⟩) (a + 4) cx) rfl rfl rfl ?_
  simp only [AP]
  refine svl (.pointer (some ⟨g, 0, none⟩)) (.inl ⟨by rfl, fun w' _ => by (go_simp; try omega)⟩) ?_
  simp only [AP]
  refine wpSeq_yield (S := fun w' => w' = w7) (v := .int .u8 (f : Int)) (Or.inl ⟨by rfl, fun w' hw' => by (rw [hw']; go_simp)⟩) rfl ?_
  simp only [AP]
  refine svl (.int .u8 (fm : Int)) (.inl ⟨by rfl, fun w' _ => by go_simp⟩) ?_
  simp only [AP]
  refine svl (.int .i64 (fm : Int)) (.inl ⟨by rfl, fun w' _ => by go_simp⟩) ?_
  simp only [AP]
  refine svl (.int .i64 ((a + fm : Nat) : Int)) (.inl ⟨by rfl, fun w' _ => by go_simp⟩) ?_
  simp only [AP]
  refine svl (.int .i64 ((a + m : Nat) : Int)) (.inl ⟨by rfl, fun w' _ => by go_simp⟩) ?_
  simp only [AP]
  refine wpSeq_yield (S := fun _ => True) (yieldsIf_head rfl _ _ rfl (some ⟨g, 0, none⟩) (a + 4) cx (a + m) rfl rfl (by have := lA.out; have := NG.out; omega)) trivial ?_
  simp only [AP]
  refine sas (.slice (some ⟨g, 0, none⟩) (a + m) cx) rfl rfl rfl ?_
  simp only [AP]
  refine wpSeq_nil ?_
  refine (by assumption : ∀ (a : Act) (w : World), _ → _) _ _ ?_
  clear c0 f3 e4 e5 e6 fw
  have O8 := O7.cut (a + m) (by have := lA.out; omega)
  rw [hid_take] at O8
  obtain ⟨Y, hY⟩ : ∃ Y, X.take (a + m) = Y := ⟨_, rfl⟩
  rw [hY] at O8
  have lY : Y.length = a + m := by rw [← hY, List.length_take, S6.out.1]; have := lA.out; omega
  have bY : Bytes Y := by rw [← hY]; exact S6.out.2.1.take _
  have S7 := S1.out
  rw [hY] at S7
  replace S7 := Lib.hid S7
  have bd := below_drew (Below.refl w7.heap.size w7)
  replace O8 := O8.below bd
  replace MB7 := MB7.below' bd
  replace b8 := b8.trans (bd.mono b8.size)
  clear bd hY O7
  have et2 : (.slice (tailP (some ⟨g, 0, none⟩) cx a) (a + m - a) (cx - a) : Value) = .slice (some ⟨g, a, none⟩) m (cx - a) := by
   have := tail_eq g 0 a (a + m) cx (by have := lA.out; have := NG.out; omega)
   rw [Nat.zero_add] at this
   rw [this, Nat.add_sub_cancel_left]
  have acx : (a : Int) ≤ cx := by have := lA.out; have := NG.out; omega
  go_upto_region 5 with fail
  rename_i aK
  refine wp_region_S (S := fun _ => True) (by kernel_rfl) ?_
  generalize w7.drew = w8 at *
  have hS := trivial
  refine wpAnyS_takeL 0 (v := .slice (some ⟨g, 0, none⟩) (a + m) cx) rfl (by kernel_rfl) (by kernel_rfl) (by kernel_rfl) (fun _ _ _ H => H) (yieldsIf_move rfl _ rfl (.slice (some ⟨g, 0, none⟩) (a + m) cx) rfl) hS ?_
  simp only [AP]
  refine wpAnyS_takeL 1 (v := .int .i64 (a : Int)) rfl (by kernel_rfl) (by kernel_rfl) (by kernel_rfl) (fun _ _ _ H => H) (yieldsIf_move rfl _ rfl (.int .i64 (a : Int)) rfl) hS ?_
  simp only [AP]
  refine wpAnyS_takeL 2 (v := .slice (some ⟨g, a, none⟩) m (cx - a)) rfl (by kernel_rfl) (by kernel_rfl) (by kernel_rfl) (fun _ _ _ H => H) (et2 ▸ yieldsIf_tail rfl _ _ rfl (some ⟨g, 0, none⟩) (a + m) cx a rfl rfl (by omega) (by have := lA.out; have := NG.out; omega)) hS ?_
  simp only [AP]
  refine wpAnyS_takeL 3 (v := .slice (some ⟨gm, 1, none⟩) 15 15) rfl (by kernel_rfl) (by kernel_rfl) (by kernel_rfl) (fun _ _ _ H => H) (Or.inl ⟨by rfl, fun w' hw' => by (go_simp)⟩) hS ?_
  simp only [AP]
  refine gstep 4 rfl rfl (by kernel_rfl) ?_
  unfold Oper.wp execOp
  go_simp
  refine (join_c W.heap.size E Y a m (a + m) cx g gm bits 27 lA.out.2.2.2.2.1 (Nat.le_refl _) lA.out.2.2.2.2.2.2 lY (by have := lA.out; omega) S6.out.2.2.1 bY S6.out.2.2.2 NG.out.1 w8 O8 MB7).mono ?_
  rintro _ w9 ⟨⟨vj, rfl⟩, O9, G9⟩
  have b9 := below_grown' b8 G9 (fun j e => by have := Option.some.inj e; have := NG.out; omega) b8.size
  rw [← S7.out] at O9
  clear O8 MB7 b8 G9 hS S7 lY bY et2
  refine wpAnyS_done (by kernel_rfl) ?_ _
  refine (by assumption : ∀ (a : Act) (w : World), _ → _) _ _ ?_
  clear aK
  have lah : ah.length = a + m := by
   have := O9.len
   exact this.symm
  have bah : Bytes (ah.drop a) := by
   rw [S1.out]
   exact (hidN_bytes S6.out.2.2.2 (S6.out.2.1.take _) _ _ _).drop a
  have et2 : (.slice (tailP (some ⟨g, 0, none⟩) cx a) (a + m - a) (cx - a) : Value) = .slice (some ⟨g, a, none⟩) m (cx - a) := by
   have := tail_eq g 0 a (a + m) cx (by have := lA.out; have := NG.out; omega)
   rw [Nat.zero_add] at this
   rw [this, Nat.add_sub_cancel_left]
  go_upto_region 6 with fail
  rename_i aK
  refine wp_region_seq ?_
  refine smv (.slice (some ⟨g, 0, none⟩) (a + m) cx) rfl rfl rfl ?_
  simp only [AP]
  refine smv (.int .i64 (a : Int)) rfl rfl rfl ?_
  simp only [AP]
  refine wpSeq_yield (S := fun _ => True) (et2 ▸ yieldsIf_tail rfl _ _ rfl (some ⟨g, 0, none⟩) (a + m) cx a rfl rfl (by omega) (by have := lA.out; have := NG.out; omega)) trivial ?_
  simp only [AP]
  refine svl (.int .i64 (m : Int)) (.inl ⟨by rfl, fun w' _ => by go_simp⟩) ?_
  simp only [AP]
  refine smv (.int .i64 0) rfl rfl rfl ?_
  simp only [AP]
  refine wpSeq_nil ?_
  refine (by assumption : ∀ (a : Act) (w : World), _ → _) _ _ ?_
  clear et2 acx
  obtain ⟨D, hD⟩ : ∃ D, ah.drop a = D := ⟨_, rfl⟩
  have lD : D.length = m := by rw [← hD, List.length_drop, lah]; omega
  have S8 := S0.out
  rw [hD] at S8 bah
  replace S8 := Lib.hid S8
  have CD := Lib.hid (fun j (hj : j < m) => show w9.cell? ⟨g, a + j, none⟩ = some (.int .u8 ((D.getD j 0 : Nat) : Int)) by
   have := (O9.at_cell (a + j) (by rw [lah]; omega)).1
   rw [this, ← hD, List.getD_eq_getElem?_getD, List.getD_eq_getElem?_getD, List.getElem?_drop])
  replace O9 := Lib.hid O9
  replace b9 := Lib.hid b9
  clear hD
  go_upto_region 7 with fail
  go_loopw [7, 52] (fun sv v wr => ∃ j : Nat, j ≤ m ∧ v = .int .i64 (j : Int) ∧ sv = .int .u64 ((beN 0 (D.take j) : Nat) : Int) ∧ wr = w9) (fun _ v _ => (m - intOf v).toNat)
  case atStart => exact ⟨0, by omega, rfl, rfl, rfl⟩
  case round =>
   obtain ⟨j, jm, rfl, rfl, rfl⟩ := hrel
   by_cases jj : j = m
   ·
    subst jj
    have es : beN 0 (D.take j) = s := by rw [S8.out, List.take_of_length_le (by omega)]
    rw [es]
    go_upto_region 7 with fail
    rename_i aK
    refine wp_region_seq ?_
    refine svl (.bool false) (.inl ⟨by rfl, fun w' _ => by (go_simp; try omega)⟩) ?_
    simp only [AP]
    refine wpSeq_nil ?_
    refine (by assumption : ∀ (a : Act) (w : World), _ → _) _ _ ?_
    go_upto_region 11 with fail
    rename_i aK
    refine wp_region_seq ?_
    refine smv (.slice (some ⟨g, 0, none⟩) (a + j) cx) rfl rfl rfl ?_
    simp only [AP]
    refine smv (.int .u64 (s : Int)) rfl rfl rfl ?_
    simp only [AP]
    refine sas (.slice (some ⟨g, 0, none⟩) (a + j) cx) rfl rfl rfl ?_
    simp only [AP]
    refine sas (.int .u64 (s : Int)) rfl rfl rfl ?_
    simp only [AP]
    refine wpSeq_nil ?_
    refine (by assumption : ∀ (a : Act) (w : World), _ → _) _ _ ?_
    go_wp2
    refine bodyPost_ret (results_tmp2 rfl _ _ _) rfl ?_
    exact ⟨_, rfl, O9.out, b9.out⟩
   ·
    have jl : j < m := by omega
    obtain ⟨t, ht⟩ : ∃ t, beN 0 (D.take j) = t := ⟨_, rfl⟩
    obtain ⟨y, hy⟩ : ∃ y, D.getD j 0 = y := ⟨_, rfl⟩
    have y8 : y < 256 := by rw [← hy]; exact getD_bytes bah _
    have m4 := lA.out.2.2.2.2.2.2
    have t3 : t < 16777216 := by
     have h := beN_lt (D.take j) (bah.take j) 0
     rw [ht, List.length_take, Nat.min_eq_left (by omega)] at h
     have : j = 0 ∨ j = 1 ∨ j = 2 ∨ j = 3 := by omega
     rcases this with rfl | rfl | rfl | rfl <;> simp at h <;> omega
    have e2 : beN 0 (D.take (j + 1)) = t * 256 + y := by
     rw [List.take_add_one, List.getElem?_eq_getElem (by omega), Option.toList_some, beN_snoc, ht, ← hy, List.getD_eq_getElem?_getD, List.getElem?_eq_getElem (by omega)]
     rfl
    have e2 := Lib.hid e2
    have f1 := or_byte t y (by omega) y8
    have cc := CD.out j jl
    rw [hy] at cc
    have f4 : IntKind.i64.wrap ((j : Int) + 1) = ((j + 1 : Nat) : Int) := by rw [IntKind.wrap_i64]; omega
    have f5 : IntKind.u64.wrap (y : Int) = (y : Int) := by rw [IntKind.wrap_u64]; omega
    have f6 := Lib.hid f4
    rw [ht]
    clear ht hy f4
    go_upto_region 7 with fail
    rename_i aK
    refine wp_region_seq ?_
    refine svl (.bool true) (.inl ⟨by rfl, fun w' _ => by (go_simp; try omega)⟩) ?_
    simp only [AP]
    refine wpSeq_nil ?_
    refine (by assumption : ∀ (a : Act) (w : World), _ → _) _ _ ?_
    go_upto_region 8 with fail
    rename_i aK
    refine wp_region_seq ?_
    refine svl (.pointer (some ⟨g, a + j, none⟩)) (.inl ⟨by rfl, fun w' _ => by (go_simp; try omega)⟩) ?_
    simp only [AP]
    refine wpSeq_yield (S := fun w' => w' = wr) (v := .int .u8 (y : Int)) (Or.inl ⟨by rfl, fun w' hw' => by (rw [hw']; go_simp)⟩) rfl ?_
    simp only [AP]
    refine sas (.int .u8 (y : Int)) rfl rfl rfl ?_
    simp only [AP]
    refine wpSeq_nil ?_
    refine (by assumption : ∀ (a : Act) (w : World), _ → _) _ _ ?_
    go_upto_region 9 with fail
    rename_i aK
    refine wp_region_seq ?_
    refine smv (.int .u64 (t : Int)) rfl rfl rfl ?_
    simp only [AP]
    refine svl (.int .u64 (IntKind.u64.wrap ((t : Int) * 256))) (.inl ⟨by rfl, fun w' _ => by go_simp⟩) ?_
    simp only [AP]
    refine smv (.int .u8 (y : Int)) rfl rfl rfl ?_
    simp only [AP]
    refine svl (.int .u64 (y : Int)) (.inl ⟨by rfl, fun w' _ => by go_simp⟩) ?_
    simp only [AP]
    refine svl (.int .u64 ((t * 256 + y : Nat) : Int)) (.inl ⟨by rfl, fun w' _ => by go_simp⟩) ?_
    simp only [AP]
    refine sas (.int .u64 ((t * 256 + y : Nat) : Int)) rfl rfl rfl ?_
    simp only [AP]
    refine wpSeq_nil ?_
    refine (by assumption : ∀ (a : Act) (w : World), _ → _) _ _ ?_
    have f4 := f6.out
    go_upto_region 10 with fail
    rename_i aK
    refine wp_region_seq ?_
    refine svl (.int .i64 ((j + 1 : Nat) : Int)) (.inl ⟨by rfl, fun w' _ => by go_simp⟩) ?_
    simp only [AP]
    refine smv (.int .i64 ((j + 1 : Nat) : Int)) rfl rfl rfl ?_
    simp only [AP]
    refine wpSeq_nil ?_
    go_wp2
    exact ⟨⟨j + 1, by omega, rfl, by rw [e2.out], trivial⟩, by simp only [intOf]; omega⟩
 clear aK
 have bd := below_drew (Below.refl w1.heap.size w1)
 refine wp_region_Z (S := fun w' => Below w1.drew.heap.size w1.drew w') 6 (by kernel_rfl) ?_
 replace K0 := Lib.hid (K0.below' bd)
 replace S5 := Lib.hid (S5.out.below bd)
 replace bd := Lib.hid bd
 generalize w1.drew = w2 at *
 have hS := Below.refl w2.heap.size w2
 have acx : (a : Int) ≤ c := by have := lA.out; omega
 clear b0 f1 f2 f3 e4 e5 e6 fw HC CC hH
 refine wpAnyZ_takeL 0 (v := .agg KC) rfl (by kernel_rfl) (by kernel_rfl) (by kernel_rfl) (by kernel_rfl) (by kernel_rfl) (fun _ _ _ H => H) (show YieldsIf _ _ _ _ (.agg KC) _ from yieldsIf_row_wanted (S := fun w' => Below w2.heap.size w2 w') rfl 30 _ rfl W.heap.size rfl 30 _ _ (fun _ h => K0.out.below' h) Tryd.underlying30 rfl (info_keys KC kz.out)) hS ?_
 simp only [AP]
 refine wpAnyZ_takeL 1 (v := .slice (some ⟨g0, q, none⟩) n c) rfl (by kernel_rfl) (by kernel_rfl) (by kernel_rfl) (by kernel_rfl) (by kernel_rfl) (fun _ _ _ H => H) (yieldsIf_move rfl _ rfl (.slice (some ⟨g0, q, none⟩) n c) rfl) hS ?_
 simp only [AP]
 refine wpAnyZ_takeL 2 (v := .int .i64 (a : Int)) rfl (by kernel_rfl) (by kernel_rfl) (by kernel_rfl) (by kernel_rfl) (by kernel_rfl) (fun _ _ _ H => H) (yieldsIf_move rfl _ rfl (.int .i64 (a : Int)) rfl) hS ?_
 simp only [AP]
 refine wpAnyZ_takeL 3 (v := .slice (some ⟨g0, q + a, none⟩) (n - a) (c - a)) rfl (by kernel_rfl) (by kernel_rfl) (by kernel_rfl) (by kernel_rfl) (by kernel_rfl) (fun _ _ _ H => H) (et ▸ yieldsIf_tail rfl _ _ rfl (some ⟨g0, q, none⟩) n c a rfl rfl lA.out.1 lA.out.2.2.1) hS ?_
 simp only [AP]
 clear hS et acx
 refine hzsteps 4 5 rfl rfl (by kernel_rfl) rfl rfl ?_ ?_
 ·
  unfold Oper.wp execOp
  go_simp
  refine (MC.out w2 S5.out).mono ?_
  rintro _ w3 ⟨rfl, b3⟩
  refine ⟨b3, ?_⟩
  refine hzstep 5 rfl (by kernel_rfl) rfl ?_
  unfold Oper.wp execOp
  go_simp
  refine ⟨b3.alloc b3.size _, ?_⟩
  refine hzstep 6 rfl (by kernel_rfl) rfl (wp_store_row 27 _ _ rfl w3.heap.size (Iv .u8 (NI E)) rfl rfl _ _ (Blk.new _ _ _) (by rw [info_ab, Iv_size, NI_length, S6.out.2.2.1]) (by rw [Iv_size, NI_length, S6.out.2.2.1]; rfl) (u8s_one _) ⟨fun e => Bool.noConfusion ((e.symm.trans (show _ = true from rfl) : false = true)), ?_⟩)
  simp only [Act.put]
  refine wpAnyZ_done (by kernel_rfl) ?_ _
  exact AK w3.heap.size _ (Nat.le_trans bd.out.size b3.size) (one_row w3 27 _ (Iv .u8 (NI E))).1 (bd.out.trans ((b3.trans ((one_row w3 27 _ (Iv .u8 (NI E))).2.mono b3.size)).mono bd.out.size))
 ·
  unfold Oper.wp execOp
  go_simp
  generalize hZ : World.alloc w2 _ = w3
  obtain ⟨Z, hz, K3, b3⟩ : ∃ Z : Array Value, Z.size = 16 ∧ Blk w3 w2.heap.size 27 Z ∧ Below w2.heap.size w2 w3 := by
   rw [← hZ]
   exact ⟨_, rfl, Blk.new _ _ _, (Below.refl w2.heap.size w2).alloc (Nat.le_refl _) _⟩
  clear hZ
  refine ⟨b3, ?_⟩
  refine hzstep 4 rfl (by kernel_rfl) rfl ?_
  unfold Oper.wp execOp
  go_simp
  refine (MC.out w3 (S5.out.below b3)).mono ?_
  rintro _ w4 ⟨rfl, b4⟩
  have b5 := b3.trans (b4.mono b3.size)
  refine ⟨b5, ?_⟩
  have K4 := K3.below' b4
  refine hzstep 6 rfl (by kernel_rfl) rfl (wp_store_row 27 _ _ rfl w2.heap.size (Iv .u8 (NI E)) rfl rfl _ _ K4 (by rw [info_ab, Iv_size, NI_length, S6.out.2.2.1]) (by rw [Iv_size, NI_length, S6.out.2.2.1]; exact hz) (u8s_one _) ⟨fun e => Bool.noConfusion ((e.symm.trans (show _ = true from rfl) : false = true)), ?_⟩)
  simp only [Act.put]
  refine wpAnyZ_done (by kernel_rfl) ?_ _
  exact AK w2.heap.size _ bd.out.size (K4.row _) (bd.out.trans ((below_setRow b5 (Nat.le_refl _) _).mono bd.out.size))
end Go.Proofs.YtpihgljdbpnehaaDoor
namespace Go.Proofs.YtpihgljdbpnehaaDoor
open Go.RowKit
/-- Bytes put in from the front of both halves. -/
def M2 (f : Nat → Nat) (k i : Nat) : Nat := if i < k ∨ 8 ≤ i ∧ i < 8 + k then f i else 0
def M3 (f : Nat → Nat) (k i : Nat) : Nat := if i < k + 1 ∨ 8 ≤ i ∧ i < 8 + k then f i else 0
theorem word_byte {f : Nat → Nat} (fa : ∀ i, f i < 256) (o k : Nat) (hk : k < 8) : ((wB f o 8 : Nat) : Int) / 2 ^ (8 * (7 - k)) % 256 = ((f (o + k) : Nat) : Int) := by
 have h := wB_byte fa o 8 k hk
 rw [← h, show (256 : Nat) ^ (8 - 1 - k) = 2 ^ (8 * (7 - k)) by rw [Nat.pow_mul]]
 simp
set_option maxHeartbeats 4000000 in
set_option maxRecDepth 100000 in
theorem block_w (f : Nat → Nat) (fa : ∀ i, f i < 256) (w : World) :
  Calls Tryd.prog 72 #[.agg (pc (wB f 0 8) (wB f 8 8))] w fun e w' => e = .returned (.agg (Iv .u8 (NI (LB f)))) ∧ Below w.heap.size w w' := by
 have wx := wB_lt8 fa 0
 have wy := wB_lt8 fa 8
 have bx := fun k hk => word_byte fa 0 k hk
 have byy := fun k hk => word_byte fa 8 k hk
 generalize wB f 0 8 = x at *
 generalize wB f 8 8 = y at *
 go_enter Tryd.func72, Tryd.ntmps72
 go_upto_region 3 with fail
 generalize hW : World.alloc (World.alloc (World.alloc w _) _) _ = W
 have B0 : Below w.heap.size w W := hW ▸ (((Below.refl w.heap.size w).alloc (Nat.le_refl _) _).alloc (by simp) _).alloc (by simp; omega) _
 have K0 : PB W w.heap.size x y := hW ▸ ((Blk.new w 119 (pc x y)).alloc _).alloc _
 have K1 : BB W (w.heap.size + 1) (fun _ => 0) := hW ▸ (Blk.new' (by simp) _ (Iv .u8 (NI (LB fun _ => 0)))).alloc _
 have K2 : BB W (w.heap.size + 1 + 1) (M2 f 0) := by
  have h : BB W (w.heap.size + 1 + 1) (fun _ => 0) := hW ▸ Blk.new' (by simp) _ (Iv .u8 (NI (LB fun _ => 0)))
  exact h.congr fun i hi => (if_neg (by omega)).symm
 clear hW
 go_loopw [6] (fun i wr => ∃ k : Nat, k ≤ 8 ∧ i = .int .i64 (k : Int) ∧ PB wr w.heap.size x y ∧ BB wr (w.heap.size + 1) (fun _ => 0) ∧ BB wr (w.heap.size + 1 + 1) (M2 f k) ∧ Below w.heap.size w wr) (fun i _ => (8 - intOf i).toNat)
 case atStart => exact ⟨0, by omega, rfl, K0, K1, K2, B0⟩
 case round =>
  clear K0 K1 K2 B0
  obtain ⟨k, hk, rfl, K0, K1, K2, hB⟩ := hrel
  by_cases h8 : k = 8
  ·
   subst h8
   replace K2 := K2.congr (f' := f) fun i hi => if_pos (by omega)
   go_wp2_with (first | (refine wpList_load_row rfl 27 _ rfl (w.heap.size + 1 + 1) rfl 27 _ (0, 0) _ K2 Tryd.underlying27 rfl (info_bl _) ?_) | (refine wpList_store_row rfl 27 _ _ rfl (w.heap.size + 1) (Iv .u8 (NI (LB f))) rfl rfl 27 _ K1 (info_bl _) (by rw [Iv_size, Iv_size, NI_length, NI_length, LB_length, LB_length]) (Iv_one _ _) ?_))
   exact bodyPost_ret (results_cell_row rfl _ _ _ 27 _ (0, 0) _ rfl (Blk.row K1 (Iv .u8 (NI (LB f)))) Tryd.underlying27 rfl (info_bl _)) rfl ⟨rfl, below_setRow hB (by omega) _⟩
  ·
   have i1 : (k : Int) < 8 := by omega
   have i0 : (0 : Int) ≤ (k : Int) := by omega
   have i2 : (k : Int) < 16 := by omega
   have q1 := bx k (by omega)
   have q2 := byy k (by omega)
   rw [Nat.zero_add] at q1
   clear bx byy
   obtain ⟨r, hr⟩ : ∃ r, r = 7 - k := ⟨_, rfl⟩
   obtain ⟨s, hs⟩ : ∃ s, s = 8 * r := ⟨_, rfl⟩
   rw [← hr, ← hs] at q1 q2
   have r1 : IntKind.i64.wrap (7 - (k : Int)) = (r : Int) := by rw [IntKind.wrap_i64]; omega
   have r2 : IntKind.i64.wrap (8 * (r : Int)) = (s : Int) := by rw [IntKind.wrap_i64]; omega
   have s0 : (0 : Int) ≤ (s : Int) := by omega
   have s1 : min s 64 = s := by omega
   have j1 : IntKind.i64.wrap (8 + (k : Int)) = ((8 + k : Nat) : Int) := by rw [IntKind.wrap_i64]; omega
   have j2 : ((8 + k : Nat) : Int) < 16 := by omega
   have j3 : (0 : Int) ≤ ((8 + k : Nat) : Int) := by omega
   have cx := K0.c0
   have cy := K0.c1
   have c1 := K2.cell k (by omega)
   have f1 := Blk.frozen K2 k
   have K2' := K2.set k (M3 f k) (fun i hi => by
    unfold M2 M3
    by_cases h : i < k
    · rw [if_pos (by omega), if_pos (by omega)]
    ·
     by_cases h2 : 8 ≤ i ∧ i < 8 + k
     · rw [if_pos (by omega), if_pos (by omega)]
     · rw [if_neg (by omega), if_neg (by omega)])
   rw [show M3 f k k = f k from if_pos (by omega)] at K2'
   have K0' : PB (wr.setCell ⟨w.heap.size + 1 + 1, k, none⟩ (.int .u8 ((f k : Nat) : Int))) _ _ _ := Blk.far (p := ⟨w.heap.size + 1 + 1, k, none⟩) K0 (by dsimp only; omega) _
   have cy' := K0'.c1
   have c2 := K2'.cell (8 + k) (by omega)
   have f2 := Blk.frozen K2' (8 + k)
   have K0'' : PB ((wr.setCell ⟨w.heap.size + 1 + 1, k, none⟩ (.int .u8 ((f k : Nat) : Int))).setCell ⟨w.heap.size + 1 + 1, 8 + k, none⟩ (.int .u8 ((f (8 + k) : Nat) : Int))) _ _ _ := Blk.far (p := ⟨w.heap.size + 1 + 1, 8 + k, none⟩) K0' (by dsimp only; omega) _
   have K1'' : BB ((wr.setCell ⟨w.heap.size + 1 + 1, k, none⟩ (.int .u8 ((f k : Nat) : Int))).setCell ⟨w.heap.size + 1 + 1, 8 + k, none⟩ (.int .u8 ((f (8 + k) : Nat) : Int))) _ _ := Blk.far (p := ⟨w.heap.size + 1 + 1, 8 + k, none⟩) (Blk.far (p := ⟨w.heap.size + 1 + 1, k, none⟩) K1 (by dsimp only; omega) _) (by dsimp only; omega) _
   have hB'' : Below w.heap.size w ((wr.setCell ⟨w.heap.size + 1 + 1, k, none⟩ (.int .u8 ((f k : Nat) : Int))).setCell ⟨w.heap.size + 1 + 1, 8 + k, none⟩ (.int .u8 ((f (8 + k) : Nat) : Int))) := (hB.setCell (p := ⟨w.heap.size + 1 + 1, k, none⟩) (by dsimp only; omega) _).setCell (p := ⟨w.heap.size + 1 + 1, 8 + k, none⟩) (by dsimp only; omega) _
   have K2'' := K2'.set (8 + k) (M2 f (k + 1)) (fun i hi => by
    unfold M2 M3
    by_cases h : i < k + 1
    · rw [if_pos (by omega), if_pos (by omega)]
    ·
     by_cases h2 : 8 ≤ i ∧ i < 8 + k
     · rw [if_pos (by omega), if_pos (by omega)]
     · rw [if_neg (by omega), if_neg (by omega)])
   rw [show M2 f (k + 1) (8 + k) = f (8 + k) from if_pos (by omega)] at K2''
   clear hr hs K0 K1 K2 K0' K2' hB
   go_wp2
   exact ⟨⟨k + 1, by omega, rfl, K0'', K1'', K2'', hB''⟩, by simp only [intOf]; omega⟩
end Go.Proofs.YtpihgljdbpnehaaDoor
