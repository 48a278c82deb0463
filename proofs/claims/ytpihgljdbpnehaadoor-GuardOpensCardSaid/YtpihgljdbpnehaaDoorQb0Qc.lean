/- The program's nonce, mask, hidden bits, join: their contracts (printed by gen13/qb.py). The program's copies of bytes. The program's join, shown: their contracts (printed by gen13/qc.py). -/
import Derived.Test.YtpihgljdbpnehaaDoorNf0Qa
import Derived.Test.YtpihgljdbpnehaaDoorMSd0Ne
import Derived.Test.YtpihgljdbpnehaaDoorPj0Pk
import Derived.Test.YtpihgljdbpnehaaDoorNc
import Derived.Test.YtpihgljdbpnehaaDoorBg0HSa
import Derived.Lib.SliceRun
import Derived.Test.YtpihgljdbpnehaaDoorHSj
namespace Go.Proofs.YtpihgljdbpnehaaDoor
open Go.RowKit
/-- Which bits are hidden. -/
def bitG (x : Nat) : Nat := if x < 128 then 31 else 15
set_option maxHeartbeats 4000000 in
theorem hidden_c (x : Nat) (hx : x < 256) (W : World) : Calls Tryd.prog 30 #[.int .u8 (x : Int)] W fun e w' => e = .returned (.int .u8 ((bitG x : Nat) : Int)) ∧ Below W.heap.size W w' := by
 have f1 := and_high x hx
 unfold bitG
 by_cases c : x < 128
 ·
  rw [if_pos c] at f1 ⊢
  go_enter Tryd.func30, Tryd.ntmps30
  go_wp2
  go_ret
  exact ⟨rfl, Below.refl _ _⟩
 ·
  rw [if_neg c] at f1 ⊢
  go_enter Tryd.func30, Tryd.ntmps30
  go_wp2
  go_ret
  exact ⟨rfl, Below.refl _ _⟩
set_option maxHeartbeats 8000000 in
set_option maxRecDepth 100000 in
theorem nonce_c (K N Mk : List Nat) (lK : K.length = 16) (lN : N.length = 12) (lM : Mk.length = 16) (bN : Bytes N) (pn : Nat) (hp : pn < 18446744073709551616) (W : World) :
  Calls Tryd.prog 28 #[.agg (Iv .u8 (NI (K ++ (N ++ Mk)))), .int .u64 (pn : Int)] W fun e w' => e = .returned (.agg (Iv .u8 (NI (nonceN N pn)))) ∧ Below W.heap.size W w' := by
 have LN := Lib.hid (And.intro lK (And.intro lN lM))
 clear lK lN lM
 obtain ⟨KC, hKC⟩ : ∃ KC, Iv .u8 (NI (K ++ (N ++ Mk))) = KC := ⟨_, rfl⟩
 rw [hKC]
 have HK := Lib.hid hKC
 clear hKC
 go_enter Tryd.func28, Tryd.ntmps28
 go_upto_region 0 with fail
 rename_i aK
 refine wp_region_seq ?_
 refine wpSeq_wp rfl ?_
 unfold Oper.wp execOp
 go_simp
 refine wpSeq_wp rfl ?_
 unfold Oper.wp execOp
 go_simp
 refine wpSeq_nil ?_
 refine aK _ _ ?_
 clear aK
 generalize hW : World.alloc (World.alloc W _) _ = w1
 obtain ⟨Z, hZ, K0, KH, b0⟩ : ∃ Z : Array Value, Z.size = 12 ∧ Blk w1 W.heap.size 30 KC ∧ Blk w1 (W.heap.size + 1) 28 Z ∧ Below W.heap.size W w1 := by
  rw [← hW]
  exact ⟨_, rfl, two_alloc W _ _ _ _⟩
 clear hW
 rw [← HK.out] at K0
 have KN := ky_nonce K0 LN.out.1
 go_upto_region 1 with fail
 rename_i aK
 refine wp_region_seq ?_
 refine svl (.pointer (some ⟨W.heap.size, 16, none⟩)) (.inl ⟨by rfl, fun w' _ => by go_simp⟩) ?_
 simp only [AP]
 refine wpSeq_yield (S := fun w' => w' = w1) (show YieldsIf _ _ _ _ (.agg (Iv .u8 (NI N))) _ from yieldsIf_load_mid (S := fun w' => w' = w1) rfl 28 _ rfl W.heap.size 16 rfl ((NI N).map (Value.int .u8)) _ (fun _ h => h ▸ KN) Tryd.underlying28 rfl (by rw [info_a12]; simp [NI, LN.out.2.1])) rfl ?_
 simp only [AP]
 refine wpSeq_wp rfl ?_
 unfold Oper.wp execOp
 go_simp
 refine wpSeq_store_row rfl 28 _ _ rfl (w1.heap.size) (Iv .u8 (NI N)) rfl rfl _ _ (Blk.new w1 _ _) (by rw [info_a12, Iv_size, NI_length, LN.out.2.1]) (by rw [Iv_size, NI_length, LN.out.2.1]; rfl) (u8s_one _) ?_
 simp only [Act.put]
 refine wpSeq_nil ?_
 refine (by assumption : ∀ (a : Act) (w : World), _ → _) _ _ ?_
 generalize hw2 : World.setRow _ w1.heap.size _ = w2
 have F2 : Blk w2 w1.heap.size 28 (Iv .u8 (NI N)) ∧ Below w1.heap.size w1 w2 := by
  rw [← hw2]
  exact one_row _ _ _ _
 clear hw2
 obtain ⟨N2, b2⟩ := F2
 rw [← nonK_zero N pn LN.out.2.1] at N2
 clear K0 KN
 go_upto_region 2 with fail
 rename_i aK
 refine wp_region_seq ?_
 refine sas (.int .i64 11) rfl rfl rfl ?_
 simp only [AP]
 refine wpSeq_nil ?_
 refine (by assumption : ∀ (a : Act) (w : World), _ → _) _ _ ?_
 go_upto_region 3 with fail
 go_loopw [1, 6] (fun q t wr => ∃ j x : Nat, j ≤ 8 ∧ x = pn / 256 ^ j ∧ q = .int .u64 (x : Int) ∧ t = .int .i64 (11 - (j : Int)) ∧ Blk wr w1.heap.size 28 (Iv .u8 (NI (nonK N pn j))) ∧ Below w1.heap.size w1 wr) (fun q _ _ => (intOf q).toNat)
 case atStart => exact ⟨0, pn, by omega, by simp, rfl, by simp, N2, b2⟩
 case round =>
  clear N2 b2
  obtain ⟨j, x, j8, hx, rfl, rfl, NB, bq⟩ := hrel
  have bK := KH.below' bq
  by_cases x0 : x = 0
  ·
   subst x0
   rw [nonK_stop N pn j j8 hx.symm] at NB
   clear hx
   replace NB := Lib.hid NB
   have bz := Lib.hid (b0.trans (bq.mono b0.size))
   replace bK := Lib.hid bK
   clear bq KH b0
   go_upto_region 3 with fail
   rename_i aK
   refine wp_region_seq ?_
   refine smv (.int .u64 ((0 : Nat) : Int)) rfl rfl rfl ?_
   simp only [AP]
   refine svl (.bool false) (.inl ⟨by rfl, fun w' _ => by (go_simp; try omega)⟩) ?_
   simp only [AP]
   refine wpSeq_nil ?_
   refine (by assumption : ∀ (a : Act) (w : World), _ → _) _ _ ?_
   go_upto_region 7 with fail
   rename_i aK
   refine wp_region_seq ?_
   refine wpSeq_yield (S := fun w' => w' = wr) (show YieldsIf _ _ _ _ (.agg (Iv .u8 (NI (nonceN N pn)))) _ from yieldsIf_row_wanted (S := fun w' => w' = wr) rfl 28 _ rfl w1.heap.size rfl 28 _ _ (fun _ h => h ▸ NB.out) Tryd.underlying28 rfl (by rw [info_a12, Iv_size, NI_length, nonceN_length])) rfl ?_
   simp only [AP]
   refine wpSeq_store_row rfl 28 _ _ rfl (W.heap.size + 1) (Iv .u8 (NI (nonceN N pn))) rfl rfl _ _ bK.out (by rw [info_a12, Iv_size, NI_length, nonceN_length]) (by rw [Iv_size, NI_length, nonceN_length]; exact hZ) (u8s_one _) ?_
   simp only [Act.put]
   refine wpSeq_nil ?_
   refine (by assumption : ∀ (a : Act) (w : World), _ → _) _ _ ?_
   go_wp2
   exact bodyPost_ret (results_cell_row rfl _ _ _ 28 _ (0, 0) _ rfl (Blk.row bK.out _) Tryd.underlying28 rfl (by rw [info_a12, Iv_size, NI_length, nonceN_length])) rfl ⟨rfl, below_setRow bz.out (by omega) _⟩
  ·
   skip
   have j7 : j < 8 := by
    rcases Nat.lt_or_ge j 8 with h | h
    · exact h
    ·
     exfalso
     have e8 : j = 8 := by omega
     rw [e8, Nat.div_eq_of_lt (by rw [show (256 : Nat) ^ 8 = 18446744073709551616 from rfl]; exact hp)] at hx
     exact x0 hx
   obtain ⟨i, hi⟩ : ∃ i, 11 - j = i := ⟨_, rfl⟩
   have NS := nonK_succ N pn j j7
   have NA := nonK_at N pn j j7
   rw [hi, ← hx] at NS
   rw [hi] at NA
   obtain ⟨y, hy⟩ : ∃ y, N.getD i 0 = y := ⟨_, rfl⟩
   rw [hy] at NS NA
   have y8 : y < 256 := by rw [← hy]; exact getD_bytes bN i
   obtain ⟨r, hr⟩ : ∃ r, x % 256 = r := ⟨_, rfl⟩
   rw [hr] at NS
   have x64 : x < 18446744073709551616 := by rw [hx]; exact Nat.lt_of_le_of_lt (Nat.div_le_self _ _) hp
   obtain ⟨x2, hx2⟩ : ∃ x2, x / 256 = x2 := ⟨_, rfl⟩
   have HX := Lib.hid (show x2 = pn / 256 ^ (j + 1) by rw [← hx2, hx, Nat.div_div_eq_div_mul, Nat.pow_succ])
   have f1 : (11 : Int) - (j : Int) = (i : Int) := by omega
   have f2 : IntKind.u8.wrap (x : Int) = (r : Int) := by rw [IntKind.wrap_u8]; omega
   have f3 : bits BinOp.xor IntKind.u8 (y : Int) (r : Int) = ((y ^^^ r : Nat) : Int) := xor_u8 y r y8 (by omega)
   have f5 : (x : Int) / 256 = (x2 : Int) := by omega
   have i12 : i < 12 := by omega
   have xl : x2 < x := by omega
   have ij := Lib.hid (show (i : Int) - 1 = 11 - ((j + 1 : Nat) : Int) by omega)
   have NA0 := Lib.hid NA
   have c0 := cell_list NB i y (by rw [nonK_length]; exact i12) NA0.out
   have z0 := NB.frozen i
   have NB3 : Blk (wr.setCell ⟨w1.heap.size, i, none⟩ (.int .u8 ((y ^^^ r : Nat) : Int))) w1.heap.size 28 (Iv .u8 (NI (nonK N pn (j + 1)))) := by
    rw [NS, ← Iv_put]
    exact NB.set i _
   have bq3 := bq.setCell (p := ⟨w1.heap.size, i, none⟩) (Nat.le_refl w1.heap.size) (.int .u8 ((y ^^^ r : Nat) : Int))
   have f6 : IntKind.i64.wrap ((i : Int) - 1) = (i : Int) - 1 := by rw [IntKind.wrap_i64]; omega
   rw [f1]
   clear NB bq bK KH b0 hr hy NA NS hi hx hx2 f1
   go_upto_region 3 with fail
   rename_i aK
   refine wp_region_seq ?_
   refine smv (.int .u64 (x : Int)) rfl rfl rfl ?_
   simp only [AP]
   refine svl (.bool true) (.inl ⟨by rfl, fun w' _ => by (go_simp; try omega)⟩) ?_
   simp only [AP]
   refine wpSeq_nil ?_
   refine (by assumption : ∀ (a : Act) (w : World), _ → _) _ _ ?_
   go_upto_region 5 with fail
   rename_i aK
   refine wp_region_seq ?_
   refine smv (.int .i64 (i : Int)) rfl rfl rfl ?_
   simp only [AP]
   refine svl (.pointer (some ⟨w1.heap.size, i, none⟩)) (.inl ⟨by rfl, fun w' _ => by (go_simp; try omega)⟩) ?_
   simp only [AP]
   refine wpSeq_yield (S := fun w' => w' = wr) (v := .int .u8 (y : Int)) (Or.inl ⟨by rfl, fun w' hw' => by (rw [hw']; go_simp)⟩) rfl ?_
   simp only [AP]
   refine smv (.int .u64 (x : Int)) rfl rfl rfl ?_
   simp only [AP]
   refine svl (.int .u8 (r : Int)) (.inl ⟨by rfl, fun w' _ => by go_simp⟩) ?_
   simp only [AP]
   refine svl (.int .u8 ((y ^^^ r : Nat) : Int)) (.inl ⟨by rfl, fun w' _ => by go_simp⟩) ?_
   simp only [AP]
   refine svl (.pointer (some ⟨w1.heap.size, i, none⟩)) (.inl ⟨by rfl, fun w' _ => by (go_simp; try omega)⟩) ?_
   simp only [AP]
   refine wpSeq_wp rfl ?_
   unfold Oper.wp execOp
   go_simp
   refine wpSeq_nil ?_
   refine (by assumption : ∀ (a : Act) (w : World), _ → _) _ _ ?_
   clear c0 z0
   go_upto_region 6 with fail
   rename_i aK
   refine wp_region_seq ?_
   refine smv (.int .u64 (x : Int)) rfl rfl rfl ?_
   simp only [AP]
   refine svl (.int .u64 (x2 : Int)) (.inl ⟨by rfl, fun w' _ => by (go_simp; try omega)⟩) ?_
   simp only [AP]
   refine sas (.int .u64 (x2 : Int)) rfl rfl rfl ?_
   simp only [AP]
   refine wpSeq_nil ?_
   refine (by assumption : ∀ (a : Act) (w : World), _ → _) _ _ ?_
   go_upto_region 4 with fail
   rename_i aK
   refine wp_region_seq ?_
   refine smv (.int .i64 (i : Int)) rfl rfl rfl ?_
   simp only [AP]
   refine svl (.int .i64 ((i : Int) - 1)) (.inl ⟨by rfl, fun w' _ => by go_simp⟩) ?_
   simp only [AP]
   refine sas (.int .i64 ((i : Int) - 1)) rfl rfl rfl ?_
   simp only [AP]
   refine wpSeq_nil ?_
   go_wp2
   exact ⟨⟨j + 1, x2, by omega, HX.out, rfl, by rw [ij.out], NB3, bq3⟩, by simp only [intOf]; omega⟩
set_option maxHeartbeats 8000000 in
set_option maxRecDepth 100000 in
theorem mask_c (K N Mk : List Nat) (lK : K.length = 16) (lN : N.length = 12) (lM : Mk.length = 16) (bM : Bytes Mk) (b : List Nat) (bb : Bytes b) (p : Option Addr) (n c : Nat) (h20 : 20 ≤ n) (W : World) (hb : SB W (.slice p n c) b) :
  Calls Tryd.prog 29 #[.agg (Iv .u8 (NI (K ++ (N ++ Mk)))), .slice p n c] W fun e w' => e = .returned (.agg (Iv .u8 (NI (encL boxL Mk ((b.drop 4).take 16))))) ∧ Below W.heap.size W w' := by
 have hn := hb.len
 obtain ⟨g, q, rfl, hA⟩ : ∃ g o, p = some ⟨g, o, none⟩ ∧ BA W g o b := by
  rcases hb.at_ with h0 | h0
  · omega
  · exact h0
 have l16 : ((b.drop 4).take 16).length = 16 := by simp only [List.length_take, List.length_drop]; omega
 have A2 := Lib.hid ((hA.drop 4).take 16)
 have lc : n ≤ c := by omega
 have b16 : Bytes ((b.drop 4).take 16) := (bb.drop 4).take 16
 obtain ⟨s, hs⟩ : ∃ s, (b.drop 4).take 16 = s := ⟨_, rfl⟩
 rw [hs] at A2 l16 b16 ⊢
 have EC := Lib.hid (fun W => enc_any Mk s lM bM l16 b16 W)
 have eE : (encL boxL Mk s).length = 16 := encL_length _ _
 generalize encL boxL Mk s = E at *
 have LN := Lib.hid (And.intro lK (And.intro lN lM))
 clear lK lN lM hb hn hA hs bb bM b16
 obtain ⟨KC, hKC⟩ : ∃ KC, Iv .u8 (NI (K ++ (N ++ Mk))) = KC := ⟨_, rfl⟩
 rw [hKC]
 have HK := Lib.hid hKC
 clear hKC
 go_enter Tryd.func29, Tryd.ntmps29
 go_upto_region 0 with fail
 rename_i aK
 refine wp_region_seq ?_
 refine wpSeq_wp rfl ?_
 unfold Oper.wp execOp
 go_simp
 refine wpSeq_wp rfl ?_
 unfold Oper.wp execOp
 go_simp
 refine wpSeq_nil ?_
 refine aK _ _ ?_
 clear aK
 generalize hW : World.alloc (World.alloc W _) _ = w1
 obtain ⟨Z, hZ, K0, KH, b0⟩ : ∃ Z : Array Value, Z.size = 16 ∧ Blk w1 W.heap.size 30 KC ∧ Blk w1 (W.heap.size + 1) 27 Z ∧ Below W.heap.size W w1 := by
  rw [← hW]
  exact ⟨_, rfl, two_alloc W _ _ _ _⟩
 clear hW
 rw [← HK.out] at K0
 replace A2 := Lib.hid (A2.out.below b0)
 go_upto_region 1 with fail
 rename_i aK
 have bd := below_drew (Below.refl w1.heap.size w1)
 refine wp_region_Z (S := fun w' => Below w1.drew.heap.size w1.drew w') 7 (by kernel_rfl) ?_
 replace K0 := K0.below' bd
 replace KH := KH.below' bd
 replace A2 := Lib.hid (A2.out.below bd)
 replace b0 := b0.trans (bd.mono b0.size)
 generalize w1.drew = w2 at *
 clear bd
 have hS := Below.refl w2.heap.size w2
 have ga := A2.out.blk
 have kl := K0.lt
 have RG := fun (w' : World) (h : Below w2.heap.size w2 w') => (A2.out.below h).mid_rng
 have RM := fun (w' : World) (h : Below w2.heap.size w2 w') => ky_mask (K0.below' h) LN.out.1 LN.out.2.1
 have har : ∀ w', (Instr.arrayAt 27 (.slice (some ⟨g, q + 4, none⟩) 16 (c - 4))).run Tryd.prog w' = .ok (.pointer (some ⟨g, q + 4, none⟩)) w' := fun w' => by simp [Instr.arrayAt, run_underlying Tryd.underlying27]
 refine wpAnyZ_takeL 0 (v := .pointer (some ⟨W.heap.size, 28, none⟩)) rfl (by kernel_rfl) (by kernel_rfl) (by kernel_rfl) (by kernel_rfl) (by kernel_rfl) (fun _ _ _ H => H) (Or.inl ⟨by rfl, fun w' hw' => by (go_simp)⟩) hS ?_
 simp only [AP]
 refine wpAnyZ_takeL 1 (v := .agg (Iv .u8 (NI Mk))) rfl (by kernel_rfl) (by kernel_rfl) (by kernel_rfl) (by kernel_rfl) (by kernel_rfl) (fun _ _ _ H => H) (show YieldsIf _ _ _ _ (.agg (Iv .u8 (NI Mk))) _ from yieldsIf_load_mid (S := fun w' => Below w2.heap.size w2 w') rfl 27 _ rfl W.heap.size 28 rfl ((NI Mk).map (Value.int .u8)) _ RM Tryd.underlying27 rfl (by rw [info_ab]; simp [NI, LN.out.2.2])) hS ?_
 simp only [AP]
 refine wpAnyZ_takeL 2 (v := .slice (some ⟨g, q, none⟩) n c) rfl (by kernel_rfl) (by kernel_rfl) (by kernel_rfl) (by kernel_rfl) (by kernel_rfl) (fun _ _ _ H => H) (yieldsIf_move rfl _ rfl (.slice (some ⟨g, q, none⟩) n c) rfl) hS ?_
 simp only [AP]
 refine wpAnyZ_takeL 3 (v := .slice (some ⟨g, q + 4, none⟩) 16 (c - 4)) rfl (by kernel_rfl) (by kernel_rfl) (by kernel_rfl) (by kernel_rfl) (by kernel_rfl) (fun _ _ _ H => H) (Or.inl ⟨by rfl, fun w' hw' => by (go_simp; rw [if_pos (by omega), if_neg (by omega)])⟩) hS ?_
 simp only [AP]
 refine wpAnyZ_takeL 4 (v := .pointer (some ⟨g, q + 4, none⟩)) rfl (by kernel_rfl) (by kernel_rfl) (by kernel_rfl) (by kernel_rfl) (by kernel_rfl) (fun _ _ _ H => H) (Or.inl ⟨by rfl, fun w' hw' => by (go_simp)⟩) hS ?_
 simp only [AP]
 refine wpAnyZ_takeL 5 (v := .agg (Iv .u8 (NI s))) rfl (by kernel_rfl) (by kernel_rfl) (by kernel_rfl) (by kernel_rfl) (by kernel_rfl) (fun _ _ _ H => H) (show YieldsIf _ _ _ _ (.agg (Iv .u8 (NI s))) _ from yieldsIf_load_mid (S := fun w' => Below w2.heap.size w2 w') rfl 27 _ rfl g (q + 4) rfl ((NI s).map (Value.int .u8)) _ RG Tryd.underlying27 rfl (by rw [info_ab]; simp [NI, l16])) hS ?_
 simp only [AP]
 clear har hS RG RM
 refine hzstep 6 rfl (by kernel_rfl) rfl ?_
 unfold Oper.wp execOp
 go_simp
 refine (EC.out w2).mono ?_
 rintro _ w3 ⟨rfl, b3⟩
 refine ⟨b3, ?_⟩
 have KH3 := KH.below' b3
 have b4 := b0.trans (b3.mono b0.size)
 refine hzstep 7 rfl (by kernel_rfl) rfl (wp_store_row 27 _ _ rfl (W.heap.size + 1) (Iv .u8 (NI E)) rfl rfl _ _ KH3 (by rw [info_ab, Iv_size, NI_length, eE]) (by rw [Iv_size, NI_length, eE]; exact hZ) (u8s_one _) ⟨fun e => Bool.noConfusion ((e.symm.trans (show _ = true from rfl) : false = true)), ?_⟩)
 simp only [Act.put]
 refine wpAnyZ_done (by kernel_rfl) ?_ _
 refine aK _ _ ?_
 clear aK
 go_wp2
 exact bodyPost_ret (results_cell_row rfl _ _ _ 27 _ (0, 0) _ rfl (Blk.row KH3 _) Tryd.underlying27 rfl (by rw [info_ab, Iv_size, NI_length, eE])) rfl ⟨rfl, below_setRow b4 (by omega) _⟩
end Go.Proofs.YtpihgljdbpnehaaDoor
namespace Go.Proofs.YtpihgljdbpnehaaDoor
open Go.RowKit
set_option maxHeartbeats 4000000 in
set_option maxRecDepth 100000 in
theorem clone_c (l : List Nat) (p : Option Addr) (n c : Nat) (hn : n ≤ 100000) (W : World) (hs : SB W (.slice p n c) l) :
  Calls Tryd.prog 55 #[.slice p n c] W fun e w' => ∃ v, e = .returned v ∧ OwL W.heap.size w' v l ∧ Below W.heap.size W w' := by
 have q22 : ∀ (w : World) (a : Option Addr) (n c n' c' : Nat), (binOp .eql 24 (.slice a n c) (.slice none n' c')).run Tryd.prog w = .ok (.bool a.isNone) w := fun w a n c n' c' => Lib.run_eql_slice_nil w _ _ a n c n' c' Tryd.underlying24
 cases p with
 | none =>
  have hl : l = [] := by
   rcases hs.at_ with h0 | ⟨g, o, e, _⟩
   · exact List.length_eq_zero_iff.1 (by have := hs.len.1; omega)
   · cases e
  subst hl
  clear hs hn
  go_enter Tryd.func55, Tryd.ntmps55
  go_wp2
  go_ret
  exact ⟨_, rfl, OwL.nil _ _, Below.refl _ _⟩
 | some a =>
  have b0 := (Below.refl W.heap.size W).alloc (Nat.le_refl _) (.cells #[] 5)
  obtain ⟨v1, w1, h1, O1, g1, _⟩ := append_sb W.heap.size _ 24 _ (.slice (some a) n c) [] l (OwL.new W.heap.size W [] (Nat.le_refl _) (Nat.zero_le _)) (hs.below b0) (by have := hs.len.1; simp only [List.length_nil]; omega) b0.size
  rw [List.nil_append] at O1
  have b1 := below_grown' b0 g1 (fun j e => by have e' := Option.some.inj e; dsimp only at e'; omega) b0.size
  clear g1 b0 hs hn
  go_enter Tryd.func55, Tryd.ntmps55
  go_upto_region 3 with fail
  rename_i aK
  refine wp_region_seq ?_
  refine wpSeq_wp rfl (wp_build_run _ rfl _ _ (run_buildSlice_none _) ?_)
  simp only [Act.put, List.setIfInBounds_toArray, List.set_cons_zero, List.set_cons_succ]
  refine smv (.slice (some a) n c) rfl rfl rfl ?_
  simp only [Act.put, List.setIfInBounds_toArray, List.set_cons_zero, List.set_cons_succ]
  refine wpSeq_wp rfl (wp_append_run _ _ _ _ rfl _ _ rfl rfl _ w1 h1 ?_)
  simp only [Act.put, List.setIfInBounds_toArray, List.set_cons_zero, List.set_cons_succ]
  refine sas (v1) rfl rfl rfl ?_
  simp only [Act.put, List.setIfInBounds_toArray, List.set_cons_zero, List.set_cons_succ]
  refine wpSeq_nil ?_
  refine aK _ _ ?_
  clear aK h1
  go_wp2
  go_ret
  exact ⟨_, rfl, O1, b1⟩
end Go.Proofs.YtpihgljdbpnehaaDoor
namespace Go.Proofs.YtpihgljdbpnehaaDoor
open Go.RowKit
theorem bitG_is (x : Nat) : bitG x = 15 ∨ bitG x = 31 := by
 unfold bitG
 split
 · exact Or.inr rfl
 · exact Or.inl rfl
/-- A row of one's own, cut at its end. -/
theorem OwL.cut {B : Nat} {w : World} {g n c : Nat} {l : List Nat} (h : OwL B w (.slice (some ⟨g, 0, none⟩) n c) l) (k : Nat) (hk : k ≤ n) : OwL B w (.slice (some ⟨g, 0, none⟩) k c) (l.take k) := by
 obtain ⟨hl, hr⟩ := h
 rcases hr with ⟨e, _⟩ | ⟨g', cap, cur, e, hB, hg, hnc, hcm, hcs, htake⟩
 · cases e
 ·
  simp only [Value.slice.injEq, Option.some.injEq, Addr.mk.injEq, and_true] at e
  obtain ⟨rfl, rfl, rfl⟩ := e
  have lk : (l.take k).length = k := by rw [List.length_take]; omega
  refine ⟨by rw [vals_length, Nat.mul_one], .inr ⟨g, c, cur, by rw [lk], hB, hg, by rw [lk]; omega, hcm, hcs, ?_⟩⟩
  rw [lk]
  have := congrArg (List.take k) htake
  rw [List.take_take] at this
  rw [← show vals (l.take k) = (vals l).take k from by simp [vals, List.map_take]] at this
  rw [← this]
  congr 1
  omega
theorem OwL.len {B : Nat} {w : World} {p : Option Addr} {n c : Nat} {l : List Nat} (h : OwL B w (.slice p n c) l) : n = l.length := by
 rcases h.row with ⟨e, rfl⟩ | ⟨g, cap, e, _⟩
 ·
  simp only [Value.slice.injEq] at e
  exact e.2.1
 ·
  simp only [Value.slice.injEq] at e
  exact e.2.1
theorem beN_snoc : ∀ (l : List Nat) (a y : Nat), beN a (l ++ [y]) = beN a l * 256 + y
 | [], _, _ => rfl
 | x :: r, a, y => beN_snoc r (a * 256 + x) y
theorem beN_lt : ∀ (l : List Nat), Bytes l → ∀ a, beN a l < (a + 1) * 256 ^ l.length
 | [], _, a => by
  show a < _
  simp
 | x :: r, h, a => by
  have hx := h x (List.mem_cons_self ..)
  have := beN_lt r (fun y hy => h y (List.mem_cons_of_mem _ hy)) (a * 256 + x)
  show beN (a * 256 + x) r < _
  rw [List.length_cons, Nat.pow_succ, Nat.mul_comm (256 ^ r.length) 256, ← Nat.mul_assoc]
  exact Nat.lt_of_lt_of_le this (Nat.mul_le_mul_right _ (by omega))
set_option maxHeartbeats 8000000 in
set_option maxRecDepth 100000 in
theorem join_c (B : Nat) (M X : List Nat) (a n L c g gm b : Nat) (t : TypeId) (ha : 1 ≤ a) (hL : a + n ≤ L) (n4 : n ≤ 4) (lX : X.length = L) (l1 : L ≤ 2000) (lM : M.length = 16) (bX : Bytes X) (bM : Bytes M) (ng : gm ≠ g) (W : World)
  (O : OwL B W (.slice (some ⟨g, 0, none⟩) L c) (hidN M a 0 b X)) (MB : Blk W gm t (Iv .u8 (NI M))) :
  Calls Tryd.prog 31 #[.slice (some ⟨g, a, none⟩) n (c - a), .slice (some ⟨gm, 1, none⟩) 15 15] W fun e w' => (∃ v, e = .returned v) ∧ OwL B w' (.slice (some ⟨g, 0, none⟩) L c) (hidN M a n b X) ∧ W.grownBy w' (some g) := by
 go_enter Tryd.func31, Tryd.ntmps31
 go_upto_region 0 with fail
 rename_i aK
 refine wp_region_seq ?_
 refine smv (.slice (some ⟨g, a, none⟩) n (c - a)) rfl rfl rfl ?_
 simp only [AP]
 refine svl (.int .i64 (n : Int)) (.inl ⟨by rfl, fun w' _ => by go_simp⟩) ?_
 simp only [AP]
 refine smv (.int .i64 0) rfl rfl rfl ?_
 simp only [AP]
 refine wpSeq_nil ?_
 refine (by assumption : ∀ (a : Act) (w : World), _ → _) _ _ ?_
 go_upto_region 1 with fail
 go_loopw [7] (fun v wr => ∃ j : Nat, j ≤ n ∧ v = .int .i64 (j : Int) ∧ OwL B wr (.slice (some ⟨g, 0, none⟩) L c) (hidN M a j b X) ∧ Blk wr gm t (Iv .u8 (NI M)) ∧ W.grownBy wr (some g)) (fun v _ => (n - intOf v).toNat)
 case atStart => exact ⟨0, by omega, rfl, O, MB, ⟨rfl, rfl, rfl, Nat.le_refl _, fun _ _ _ => rfl⟩⟩
 case round =>
  clear O MB
  obtain ⟨j, jn, rfl, O, MB, G⟩ := hrel
  by_cases jj : j = n
  ·
   subst jj
   go_upto_region 1 with fail
   rename_i aK
   refine wp_region_seq ?_
   refine svl (.bool false) (.inl ⟨by rfl, fun w' _ => by (go_simp; try omega)⟩) ?_
   simp only [AP]
   refine wpSeq_nil ?_
   refine (by assumption : ∀ (a : Act) (w : World), _ → _) _ _ ?_
   go_wp2
   refine bodyPost_end (results_none rfl _ _ _) rfl ?_
   exact ⟨⟨_, rfl⟩, O, G⟩
  ·
   have jl : j < n := by omega
   have HS := hidN_succ M a j b X ha (by omega)
   have HA := hidN_at M a j b X ha (by omega)
   obtain ⟨x0, hx0⟩ : ∃ x0, X.getD (a + j) 0 = x0 := ⟨_, rfl⟩
   obtain ⟨m0, hm0⟩ : ∃ m0, M.getD (1 + j) 0 = m0 := ⟨_, rfl⟩
   rw [hx0] at HS HA
   rw [hm0] at HS
   have x8 : x0 < 256 := by rw [← hx0]; exact getD_bytes bX _
   have m8 : m0 < 256 := by rw [← hm0]; exact getD_bytes bM _
   have f3 : bits BinOp.xor IntKind.u8 (x0 : Int) (m0 : Int) = ((x0 ^^^ m0 : Nat) : Int) := xor_u8 _ _ x8 m8
   have f4 : IntKind.i64.wrap ((j : Int) + 1) = ((j + 1 : Nat) : Int) := by rw [IntKind.wrap_i64]; omega
   have bd := below_drew (Below.refl wr.heap.size wr)
   have O2 := O.below bd
   have MB2 := MB.below' bd
   have G2 := gb_trans G (show wr.grownBy wr.drew (some g) from ⟨bd.os, bd.tape, bd.output, bd.size, fun k hk _ => bd.block k hk⟩)
   clear bd O MB G hx0
   have cx0 := (O2.at_cell (a + j) (by rw [hidN_length]; omega)).1
   have fx0 := (O2.at_cell (a + j) (by rw [hidN_length]; omega)).2
   rw [HA] at cx0
   have cm0 := cell_list MB2 (1 + j) m0 (by omega) hm0
   have f5 := Lib.hid f4
   have BB := Lib.hid (And.intro bX bM)
   clear f4 HA hm0 jj bX bM
   go_upto_region 1 with fail
   rename_i aK
   refine wp_region_seq ?_
   refine svl (.bool true) (.inl ⟨by rfl, fun w' _ => by (go_simp; try omega)⟩) ?_
   simp only [AP]
   refine wpSeq_nil ?_
   refine (by assumption : ∀ (a : Act) (w : World), _ → _) _ _ ?_
   go_upto_region 2 with fail
   rename_i aK
   refine wp_region_seq ?_
   refine smv (.int .i64 (j : Int)) rfl rfl rfl ?_
   simp only [AP]
   refine sas (.int .i64 (j : Int)) rfl rfl rfl ?_
   simp only [AP]
   refine wpSeq_nil ?_
   refine (by assumption : ∀ (a : Act) (w : World), _ → _) _ _ ?_
   go_upto_region 3 with fail
   rename_i aK
   refine wp_region_Z (S := fun w' => w'.cell? ⟨g, a + j, none⟩ = some (.int .u8 (x0 : Int)) ∧ w'.cell? ⟨gm, 1 + j, none⟩ = some (.int .u8 (m0 : Int))) 10 (by kernel_rfl) ?_
   generalize World.drew wr = w14 at *
   have hS := And.intro cx0 cm0
   refine wpAnyZ_takeL 0 (v := .slice (some ⟨g, a, none⟩) n (c - a)) rfl (by kernel_rfl) (by kernel_rfl) (by kernel_rfl) (by kernel_rfl) (by kernel_rfl) (fun _ _ _ H => H) (yieldsIf_move rfl _ rfl (.slice (some ⟨g, a, none⟩) n (c - a)) rfl) hS ?_
   simp only [AP]
   refine wpAnyZ_takeL 1 (v := .int .i64 (j : Int)) rfl (by kernel_rfl) (by kernel_rfl) (by kernel_rfl) (by kernel_rfl) (by kernel_rfl) (fun _ _ _ H => H) (yieldsIf_move rfl _ rfl (.int .i64 (j : Int)) rfl) hS ?_
   simp only [AP]
   refine wpAnyZ_takeL 2 (v := .pointer (some ⟨g, a + j, none⟩)) rfl (by kernel_rfl) (by kernel_rfl) (by kernel_rfl) (by kernel_rfl) (by kernel_rfl) (fun _ _ _ H => H) (Or.inl ⟨by rfl, fun w' hw' => by (go_simp; try omega)⟩) hS ?_
   simp only [AP]
   refine wpAnyZ_takeL 3 (v := .int .u8 (x0 : Int)) rfl (by kernel_rfl) (by kernel_rfl) (by kernel_rfl) (by kernel_rfl) (by kernel_rfl) (fun _ _ _ H => H) (Or.inl ⟨by rfl, fun w' hw' => by (have cc := hw'.1; go_simp)⟩) hS ?_
   simp only [AP]
   refine wpAnyZ_takeL 4 (v := .slice (some ⟨gm, 1, none⟩) 15 15) rfl (by kernel_rfl) (by kernel_rfl) (by kernel_rfl) (by kernel_rfl) (by kernel_rfl) (fun _ _ _ H => H) (yieldsIf_move rfl _ rfl (.slice (some ⟨gm, 1, none⟩) 15 15) rfl) hS ?_
   simp only [AP]
   refine wpAnyZ_takeL 5 (v := .int .i64 (j : Int)) rfl (by kernel_rfl) (by kernel_rfl) (by kernel_rfl) (by kernel_rfl) (by kernel_rfl) (fun _ _ _ H => H) (yieldsIf_move rfl _ rfl (.int .i64 (j : Int)) rfl) hS ?_
   simp only [AP]
   refine wpAnyZ_takeL 6 (v := .pointer (some ⟨gm, 1 + j, none⟩)) rfl (by kernel_rfl) (by kernel_rfl) (by kernel_rfl) (by kernel_rfl) (by kernel_rfl) (fun _ _ _ H => H) (Or.inl ⟨by rfl, fun w' hw' => by (go_simp; try omega)⟩) hS ?_
   simp only [AP]
   refine wpAnyZ_takeL 7 (v := .int .u8 (m0 : Int)) rfl (by kernel_rfl) (by kernel_rfl) (by kernel_rfl) (by kernel_rfl) (by kernel_rfl) (fun _ _ _ H => H) (Or.inl ⟨by rfl, fun w' hw' => by (have cc := hw'.2; go_simp)⟩) hS ?_
   simp only [AP]
   refine wpAnyZ_takeL 8 (v := .int .u8 ((x0 ^^^ m0 : Nat) : Int)) rfl (by kernel_rfl) (by kernel_rfl) (by kernel_rfl) (by kernel_rfl) (by kernel_rfl) (fun _ _ _ H => H) (Or.inl ⟨by rfl, fun w' hw' => by go_simp⟩) hS ?_
   simp only [AP]
   refine wpAnyZ_takeL 9 (v := .pointer (some ⟨g, a + j, none⟩)) rfl (by kernel_rfl) (by kernel_rfl) (by kernel_rfl) (by kernel_rfl) (by kernel_rfl) (fun _ _ _ H => H) (Or.inl ⟨by rfl, fun w' hw' => by (go_simp; try omega)⟩) hS ?_
   simp only [AP]
   refine hzstep 10 rfl (by kernel_rfl) rfl ?_
   unfold Oper.wp execOp
   go_simp
   refine wpAnyZ_done (by kernel_rfl) ?_ _
   refine (by assumption : ∀ (a : Act) (w : World), _ → _) _ _ ?_
   have O3 := O2.put (a + j) (x0 ^^^ m0)
   rw [← HS] at O3
   have G3 := gb_trans G2 (gb_cell1 w14 g (a + j) (.int .u8 ((x0 ^^^ m0 : Nat) : Int)))
   have MB3 := MB2.far (p := ⟨g, a + j, none⟩) ng (.int .u8 ((x0 ^^^ m0 : Nat) : Int))
   have f4 := f5.out
   clear O2 MB2 HS f3 f5 cx0 fx0 cm0 hS x8 m8 aK G2
   generalize World.setCell w14 _ _ = w15 at *
   go_wp2
   exact ⟨⟨j + 1, by omega, rfl, O3, MB3, G3⟩, by simp only [intOf]; omega⟩
end Go.Proofs.YtpihgljdbpnehaaDoor
