/- The program's Open: its contract (printed by gen13/qe.py). -/
import Derived.Test.YtpihgljdbpnehaaDoorQd0Wd
import Derived.Test.YtpihgljdbpnehaaDoorWk
import Derived.Test.YtpihgljdbpnehaaDoorHPa
import Derived.OwnWalk
namespace Go.Proofs.YtpihgljdbpnehaaDoor
open Go.RowKit
theorem and_not (f : Nat) (hf : f < 256) (b r : Nat) (h : (b = 15 ∧ r = 12) ∨ (b = 31 ∧ r = 28)) : bits BinOp.andNot IntKind.u8 ((f &&& b : Nat) : Int) 3 = ((f &&& r : Nat) : Int) := by
 have h0 := (by decide +kernel : ∀ m : Fin 256, bits BinOp.andNot IntKind.u8 ((m.val &&& 15 : Nat) : Int) 3 = ((m.val &&& 12 : Nat) : Int) ∧ bits BinOp.andNot IntKind.u8 ((m.val &&& 31 : Nat) : Int) 3 = ((m.val &&& 28 : Nat) : Int))
 rcases h with ⟨rfl, rfl⟩ | ⟨rfl, rfl⟩
 · exact (h0 ⟨f, hf⟩).1
 · exact (h0 ⟨f, hf⟩).2
theorem fourN_nat {m : Nat} (h1 : 1 ≤ m) (h4 : m ≤ 4) : fourN (m : Int) = m := by
 unfold fourN
 rw [if_neg (by omega), if_neg (by omega), Int.toNat_natCast]
theorem full_lt (s m next : Nat) (h1 : 1 ≤ m) (h4 : m ≤ 4) (hn : next < 4611686018427387904) : fullN s m next < 18446744073709551616 := by
 have h := (fullW_facts (256 ^ m) s next (pow_ws (by omega)) hn).2.2.2
 show fullW (256 ^ m) s next < _
 omega
theorem shown_is (Mk x : List Nat) (a : Nat) : ∃ bits f n s ah, Shown Mk x a bits f n s ah := ⟨_, _, _, _, _, ⟨rfl, rfl, rfl, rfl, rfl⟩⟩
theorem bitG_same (x c : Nat) (hc : c < 32) : bitG (x ^^^ c) = bitG x := by
 unfold bitG
 by_cases h : x < 128
 · rw [if_pos h, if_pos ((xor_low x c hc).2 h)]
 · rw [if_neg h, if_neg (fun e => h ((xor_low x c hc).1 e))]
set_option maxHeartbeats 16000000 in
set_option maxRecDepth 100000 in
theorem gopen_w (K N Mk x : List Nat) (a e : Int) (next : Nat) (vx : Value) (lK : K.length = 16) (lN : N.length = 12) (lM : Mk.length = 16) (bK : Bytes K) (bN : Bytes N) (bM : Bytes Mk) (bx : Bytes x) (lx : x.length ≤ 1000) (wa : i64_ok a) (we : i64_ok e) (hn : next < 4611686018427387904) (W : World) (hb : SB W vx x) (G : Nat × Nat × List Nat) (hG : openG K N Mk x a e next = G) :
  Calls Tryd.prog 19 #[.agg (Iv .u8 (NI (K ++ (N ++ Mk)))), vx, .int .i64 a, .int .i64 e, .int .u64 (next : Int)] W fun e2 w' => ∃ v, e2 = .returned (.tuple #[.int .u64 ((G.2.1 : Nat) : Int), v, .int .i64 ((G.1 : Nat) : Int)]) ∧ OwL W.heap.size w' v G.2.2 ∧ Below W.heap.size W w' := by
 obtain ⟨p, c, rfl⟩ := hb.shape
 obtain ⟨n, hxn⟩ : ∃ n, x.length = n := ⟨_, rfl⟩
 unfold i64_ok at wa we
 rw [hxn] at hb lx ⊢
 have HG := Lib.hid hG
 have LX := Lib.hid hxn
 clear hG hxn
 have KZ := Lib.hid (keys_size lK lN lM)
 have LN := Lib.hid (And.intro (And.intro lK (And.intro lN lM)) (And.intro bK (And.intro bN bM)))
 have BX := Lib.hid bx
 replace hb := Lib.hid hb
 clear lK lN lM bK bN bM bx
 obtain ⟨KC, hKC⟩ : ∃ KC, Iv .u8 (NI (K ++ (N ++ Mk))) = KC := ⟨_, rfl⟩
 rw [hKC] at KZ ⊢
 have HK := Lib.hid hKC
 clear hKC
 go_enter Tryd.func19, Tryd.ntmps19
 go_upto_region 0 with fail
 rename_i aK
 refine wp_region_seq ?_
 refine wpSeq_wp rfl ?_
 unfold Oper.wp execOp
 go_simp
 refine sas (.int .u64 0) rfl rfl rfl ?_
 simp only [AP]
 refine sas (.slice none 0 0) rfl rfl rfl ?_
 simp only [AP]
 refine sas (.int .i64 0) rfl rfl rfl ?_
 simp only [AP]
 refine wpSeq_nil ?_
 refine aK _ _ ?_
 clear aK
 have K0 := Lib.hid (Blk.new W 30 KC)
 have b0 := Lib.hid ((Below.refl W.heap.size W).alloc (Nat.le_refl _) (.cells KC 30))
 generalize World.alloc W _ = w1 at *
 replace hb := Lib.hid (hb.out.below b0.out)
 by_cases q1 : a < 1
 ·
  skip
  go_upto_region 1 with fail
  rename_i aK
  refine wp_region_seq ?_
  refine smv (.int .i64 a) rfl rfl rfl ?_
  simp only [AP]
  refine svl (.bool true) (.inl ⟨by rfl, fun w' _ => by (go_simp; try omega)⟩) ?_
  simp only [AP]
  refine smv (.bool true) rfl rfl rfl ?_
  simp only [AP]
  refine wpSeq_yield (S := fun _ => True) (yieldsIf_off rfl) trivial ?_
  simp only [AP]
  refine wpSeq_yield (S := fun _ => True) (yieldsIf_off rfl) trivial ?_
  simp only [AP]
  refine wpSeq_yield (S := fun _ => True) (yieldsIf_off rfl) trivial ?_
  simp only [AP]
  refine wpSeq_yield (S := fun _ => True) (yieldsIf_off rfl) trivial ?_
  simp only [AP]
  refine wpSeq_yield (S := fun _ => True) (yieldsIf_pick rfl _ _ _ rfl true rfl (.bool true) rfl) trivial ?_
  simp only [AP]
  refine smv (.bool true) rfl rfl rfl ?_
  simp only [AP]
  refine wpSeq_yield (S := fun _ => True) (yieldsIf_off rfl) trivial ?_
  simp only [AP]
  refine wpSeq_yield (S := fun _ => True) (yieldsIf_off rfl) trivial ?_
  simp only [AP]
  refine wpSeq_yield (S := fun _ => True) (yieldsIf_off rfl) trivial ?_
  simp only [AP]
  refine wpSeq_yield (S := fun _ => True) (yieldsIf_pick rfl _ _ _ rfl true rfl (.bool true) rfl) trivial ?_
  simp only [AP]
  refine smv (.bool true) rfl rfl rfl ?_
  simp only [AP]
  refine wpSeq_yield (S := fun _ => True) (yieldsIf_off rfl) trivial ?_
  simp only [AP]
  refine wpSeq_yield (S := fun _ => True) (yieldsIf_off rfl) trivial ?_
  simp only [AP]
  refine wpSeq_yield (S := fun _ => True) (yieldsIf_off rfl) trivial ?_
  simp only [AP]
  refine wpSeq_yield (S := fun _ => True) (yieldsIf_off rfl) trivial ?_
  simp only [AP]
  refine wpSeq_yield (S := fun _ => True) (yieldsIf_pick rfl _ _ _ rfl true rfl (.bool true) rfl) trivial ?_
  simp only [AP]
  refine wpSeq_nil ?_
  refine (by assumption : ∀ (a : Act) (w : World), _ → _) _ _ ?_
  go_upto_region 2 with fail
  rename_i aK
  refine wp_region_seq ?_
  refine sas (.int .u64 0) rfl rfl rfl ?_
  simp only [AP]
  refine sas (.slice none 0 0) rfl rfl rfl ?_
  simp only [AP]
  refine sas (.int .i64 3) rfl rfl rfl ?_
  simp only [AP]
  refine wpSeq_nil ?_
  refine (by assumption : ∀ (a : Act) (w : World), _ → _) _ _ ?_
  go_wp2
  refine bodyPost_ret (results_tmp3 rfl _ _ _) rfl ?_
  have e : G = (3, 0, []) := HG.out.symm.trans (if_pos (by have := LX.out; omega))
  subst e
  exact ⟨.slice none 0 0, rfl, OwL.nil _ _, b0.out⟩
 by_cases q2 : (n : Int) < e
 ·
  skip
  go_upto_region 1 with fail
  rename_i aK
  refine wp_region_seq ?_
  refine smv (.int .i64 a) rfl rfl rfl ?_
  simp only [AP]
  refine svl (.bool false) (.inl ⟨by rfl, fun w' _ => by (go_simp; try omega)⟩) ?_
  simp only [AP]
  refine smv (.bool false) rfl rfl rfl ?_
  simp only [AP]
  refine smv (.int .i64 e) rfl rfl rfl ?_
  simp only [AP]
  refine smv (.slice p n c) rfl rfl rfl ?_
  simp only [AP]
  refine svl (.int .i64 (n : Int)) (.inl ⟨by rfl, fun w' _ => by go_simp⟩) ?_
  simp only [AP]
  refine svl (.bool true) (.inl ⟨by rfl, fun w' _ => by (go_simp; try omega)⟩) ?_
  simp only [AP]
  refine wpSeq_yield (S := fun _ => True) (yieldsIf_pick rfl _ _ _ rfl false rfl (.bool true) rfl) trivial ?_
  simp only [AP]
  refine smv (.bool true) rfl rfl rfl ?_
  simp only [AP]
  refine wpSeq_yield (S := fun _ => True) (yieldsIf_off rfl) trivial ?_
  simp only [AP]
  refine wpSeq_yield (S := fun _ => True) (yieldsIf_off rfl) trivial ?_
  simp only [AP]
  refine wpSeq_yield (S := fun _ => True) (yieldsIf_off rfl) trivial ?_
  simp only [AP]
  refine wpSeq_yield (S := fun _ => True) (yieldsIf_pick rfl _ _ _ rfl true rfl (.bool true) rfl) trivial ?_
  simp only [AP]
  refine smv (.bool true) rfl rfl rfl ?_
  simp only [AP]
  refine wpSeq_yield (S := fun _ => True) (yieldsIf_off rfl) trivial ?_
  simp only [AP]
  refine wpSeq_yield (S := fun _ => True) (yieldsIf_off rfl) trivial ?_
  simp only [AP]
  refine wpSeq_yield (S := fun _ => True) (yieldsIf_off rfl) trivial ?_
  simp only [AP]
  refine wpSeq_yield (S := fun _ => True) (yieldsIf_off rfl) trivial ?_
  simp only [AP]
  refine wpSeq_yield (S := fun _ => True) (yieldsIf_pick rfl _ _ _ rfl true rfl (.bool true) rfl) trivial ?_
  simp only [AP]
  refine wpSeq_nil ?_
  refine (by assumption : ∀ (a : Act) (w : World), _ → _) _ _ ?_
  go_upto_region 2 with fail
  rename_i aK
  refine wp_region_seq ?_
  refine sas (.int .u64 0) rfl rfl rfl ?_
  simp only [AP]
  refine sas (.slice none 0 0) rfl rfl rfl ?_
  simp only [AP]
  refine sas (.int .i64 3) rfl rfl rfl ?_
  simp only [AP]
  refine wpSeq_nil ?_
  refine (by assumption : ∀ (a : Act) (w : World), _ → _) _ _ ?_
  go_wp2
  refine bodyPost_ret (results_tmp3 rfl _ _ _) rfl ?_
  have e : G = (3, 0, []) := HG.out.symm.trans (if_pos (by have := LX.out; omega))
  subst e
  exact ⟨.slice none 0 0, rfl, OwL.nil _ _, b0.out⟩
 by_cases q3 : e < a
 ·
  skip
  go_upto_region 1 with fail
  rename_i aK
  refine wp_region_seq ?_
  refine smv (.int .i64 a) rfl rfl rfl ?_
  simp only [AP]
  refine svl (.bool false) (.inl ⟨by rfl, fun w' _ => by (go_simp; try omega)⟩) ?_
  simp only [AP]
  refine smv (.bool false) rfl rfl rfl ?_
  simp only [AP]
  refine smv (.int .i64 e) rfl rfl rfl ?_
  simp only [AP]
  refine smv (.slice p n c) rfl rfl rfl ?_
  simp only [AP]
  refine svl (.int .i64 (n : Int)) (.inl ⟨by rfl, fun w' _ => by go_simp⟩) ?_
  simp only [AP]
  refine svl (.bool false) (.inl ⟨by rfl, fun w' _ => by (go_simp; try omega)⟩) ?_
  simp only [AP]
  refine wpSeq_yield (S := fun _ => True) (yieldsIf_pick rfl _ _ _ rfl false rfl (.bool false) rfl) trivial ?_
  simp only [AP]
  refine smv (.bool false) rfl rfl rfl ?_
  simp only [AP]
  refine smv (.int .i64 e) rfl rfl rfl ?_
  simp only [AP]
  refine smv (.int .i64 a) rfl rfl rfl ?_
  simp only [AP]
  refine svl (.bool true) (.inl ⟨by rfl, fun w' _ => by (go_simp; try omega)⟩) ?_
  simp only [AP]
  refine wpSeq_yield (S := fun _ => True) (yieldsIf_pick rfl _ _ _ rfl false rfl (.bool true) rfl) trivial ?_
  simp only [AP]
  refine smv (.bool true) rfl rfl rfl ?_
  simp only [AP]
  refine wpSeq_yield (S := fun _ => True) (yieldsIf_off rfl) trivial ?_
  simp only [AP]
  refine wpSeq_yield (S := fun _ => True) (yieldsIf_off rfl) trivial ?_
  simp only [AP]
  refine wpSeq_yield (S := fun _ => True) (yieldsIf_off rfl) trivial ?_
  simp only [AP]
  refine wpSeq_yield (S := fun _ => True) (yieldsIf_off rfl) trivial ?_
  simp only [AP]
  refine wpSeq_yield (S := fun _ => True) (yieldsIf_pick rfl _ _ _ rfl true rfl (.bool true) rfl) trivial ?_
  simp only [AP]
  refine wpSeq_nil ?_
  refine (by assumption : ∀ (a : Act) (w : World), _ → _) _ _ ?_
  go_upto_region 2 with fail
  rename_i aK
  refine wp_region_seq ?_
  refine sas (.int .u64 0) rfl rfl rfl ?_
  simp only [AP]
  refine sas (.slice none 0 0) rfl rfl rfl ?_
  simp only [AP]
  refine sas (.int .i64 3) rfl rfl rfl ?_
  simp only [AP]
  refine wpSeq_nil ?_
  refine (by assumption : ∀ (a : Act) (w : World), _ → _) _ _ ?_
  go_wp2
  refine bodyPost_ret (results_tmp3 rfl _ _ _) rfl ?_
  have e : G = (3, 0, []) := HG.out.symm.trans (if_pos (by have := LX.out; omega))
  subst e
  exact ⟨.slice none 0 0, rfl, OwL.nil _ _, b0.out⟩
 obtain ⟨d, hd⟩ : ∃ d, e - a = d := ⟨_, rfl⟩
 have fd : IntKind.i64.wrap d = d := by rw [IntKind.wrap_i64]; omega
 by_cases q4 : d < 20
 ·
  skip
  go_upto_region 1 with fail
  rename_i aK
  refine wp_region_seq ?_
  refine smv (.int .i64 a) rfl rfl rfl ?_
  simp only [AP]
  refine svl (.bool false) (.inl ⟨by rfl, fun w' _ => by (go_simp; try omega)⟩) ?_
  simp only [AP]
  refine smv (.bool false) rfl rfl rfl ?_
  simp only [AP]
  refine smv (.int .i64 e) rfl rfl rfl ?_
  simp only [AP]
  refine smv (.slice p n c) rfl rfl rfl ?_
  simp only [AP]
  refine svl (.int .i64 (n : Int)) (.inl ⟨by rfl, fun w' _ => by go_simp⟩) ?_
  simp only [AP]
  refine svl (.bool false) (.inl ⟨by rfl, fun w' _ => by (go_simp; try omega)⟩) ?_
  simp only [AP]
  refine wpSeq_yield (S := fun _ => True) (yieldsIf_pick rfl _ _ _ rfl false rfl (.bool false) rfl) trivial ?_
  simp only [AP]
  refine smv (.bool false) rfl rfl rfl ?_
  simp only [AP]
  refine smv (.int .i64 e) rfl rfl rfl ?_
  simp only [AP]
  refine smv (.int .i64 a) rfl rfl rfl ?_
  simp only [AP]
  refine svl (.bool false) (.inl ⟨by rfl, fun w' _ => by (go_simp; try omega)⟩) ?_
  simp only [AP]
  refine wpSeq_yield (S := fun _ => True) (yieldsIf_pick rfl _ _ _ rfl false rfl (.bool false) rfl) trivial ?_
  simp only [AP]
  refine smv (.bool false) rfl rfl rfl ?_
  simp only [AP]
  refine smv (.int .i64 e) rfl rfl rfl ?_
  simp only [AP]
  refine smv (.int .i64 a) rfl rfl rfl ?_
  simp only [AP]
  refine svl (.int .i64 d) (.inl ⟨by rfl, fun w' _ => by go_simp⟩) ?_
  simp only [AP]
  refine svl (.bool true) (.inl ⟨by rfl, fun w' _ => by (go_simp; try omega)⟩) ?_
  simp only [AP]
  refine wpSeq_yield (S := fun _ => True) (yieldsIf_pick rfl _ _ _ rfl false rfl (.bool true) rfl) trivial ?_
  simp only [AP]
  refine wpSeq_nil ?_
  refine (by assumption : ∀ (a : Act) (w : World), _ → _) _ _ ?_
  go_upto_region 2 with fail
  rename_i aK
  refine wp_region_seq ?_
  refine sas (.int .u64 0) rfl rfl rfl ?_
  simp only [AP]
  refine sas (.slice none 0 0) rfl rfl rfl ?_
  simp only [AP]
  refine sas (.int .i64 3) rfl rfl rfl ?_
  simp only [AP]
  refine wpSeq_nil ?_
  refine (by assumption : ∀ (a : Act) (w : World), _ → _) _ _ ?_
  go_wp2
  refine bodyPost_ret (results_tmp3 rfl _ _ _) rfl ?_
  have e : G = (3, 0, []) := HG.out.symm.trans (if_pos (by have := LX.out; omega))
  subst e
  exact ⟨.slice none 0 0, rfl, OwL.nil _ _, b0.out⟩
 go_upto_region 1 with fail
 rename_i aK
 refine wp_region_seq ?_
 refine smv (.int .i64 a) rfl rfl rfl ?_
 simp only [AP]
 refine svl (.bool false) (.inl ⟨by rfl, fun w' _ => by (go_simp; try omega)⟩) ?_
 simp only [AP]
 refine smv (.bool false) rfl rfl rfl ?_
 simp only [AP]
 refine smv (.int .i64 e) rfl rfl rfl ?_
 simp only [AP]
 refine smv (.slice p n c) rfl rfl rfl ?_
 simp only [AP]
 refine svl (.int .i64 (n : Int)) (.inl ⟨by rfl, fun w' _ => by go_simp⟩) ?_
 simp only [AP]
 refine svl (.bool false) (.inl ⟨by rfl, fun w' _ => by (go_simp; try omega)⟩) ?_
 simp only [AP]
 refine wpSeq_yield (S := fun _ => True) (yieldsIf_pick rfl _ _ _ rfl false rfl (.bool false) rfl) trivial ?_
 simp only [AP]
 refine smv (.bool false) rfl rfl rfl ?_
 simp only [AP]
 refine smv (.int .i64 e) rfl rfl rfl ?_
 simp only [AP]
 refine smv (.int .i64 a) rfl rfl rfl ?_
 simp only [AP]
 refine svl (.bool false) (.inl ⟨by rfl, fun w' _ => by (go_simp; try omega)⟩) ?_
 simp only [AP]
 refine wpSeq_yield (S := fun _ => True) (yieldsIf_pick rfl _ _ _ rfl false rfl (.bool false) rfl) trivial ?_
 simp only [AP]
 refine smv (.bool false) rfl rfl rfl ?_
 simp only [AP]
 refine smv (.int .i64 e) rfl rfl rfl ?_
 simp only [AP]
 refine smv (.int .i64 a) rfl rfl rfl ?_
 simp only [AP]
 refine svl (.int .i64 d) (.inl ⟨by rfl, fun w' _ => by go_simp⟩) ?_
 simp only [AP]
 refine svl (.bool false) (.inl ⟨by rfl, fun w' _ => by (go_simp; try omega)⟩) ?_
 simp only [AP]
 refine wpSeq_yield (S := fun _ => True) (yieldsIf_pick rfl _ _ _ rfl false rfl (.bool false) rfl) trivial ?_
 simp only [AP]
 refine wpSeq_nil ?_
 refine (by assumption : ∀ (a : Act) (w : World), _ → _) _ _ ?_
 clear fd
 obtain ⟨at_, rfl⟩ : ∃ k : Nat, a = (k : Int) := ⟨a.toNat, by omega⟩
 obtain ⟨ee, rfl⟩ : ∃ k : Nat, e = (k : Int) := ⟨e.toNat, by omega⟩
 have e20 : at_ + 20 ≤ ee := by omega
 have een : ee ≤ n := by omega
 have a1 : 1 ≤ at_ := by omega
 clear q1 q2 q3 q4 hd wa we
 obtain ⟨g0, q, rfl, hA⟩ : ∃ g o, p = some ⟨g, o, none⟩ ∧ BA w1 g o x := by
  rcases hb.out.at_ with h0 | h0
  · omega
  · exact h0
 obtain ⟨hbits, f, m, s, ah, SH⟩ := shown_is Mk x at_
 have lc := hb.out.len.2
 rw [LX.out] at lc
 obtain ⟨rest, hrest⟩ : ∃ rest, (if x.getD 0 0 < 128 then 28 else 12) = rest := ⟨_, rfl⟩
 obtain ⟨pn, hpn⟩ : ∃ pn, fullN s m next = pn := ⟨_, rfl⟩
 obtain ⟨o, ho⟩ : ∃ o, openL K (nonceN N pn) ah ((x.take ee).drop (at_ + m)) = o := ⟨_, rfl⟩
 have OG := openG_is K N Mk x at_ ee next hbits rest f m s pn ah o a1 e20 (by rw [LX.out]; exact een) SH.hb hrest.symm SH.hf SH.hn SH.hah SH.hs hpn.symm ho.symm
 have m14 : 1 ≤ m ∧ m ≤ 4 := by have := SH.hn; omega
 have bits2 := bitG_is (x.getD 0 0)
 rw [← SH.hb] at bits2
 have BM8 : Bytes (maskN Mk at_ x) := encL_bytes LN.out.2.2.2 (fun y hy => BX.out y (List.mem_of_mem_drop (List.mem_of_mem_take hy)))
 have f8 : f < 256 := by rw [SH.hf]; exact Nat.xor_lt_two_pow (n := 8) (getD_bytes BX.out 0) (Nat.lt_of_le_of_lt Nat.and_le_left (getD_bytes BM8 0))
 have fb : bitG f = hbits := by
  rw [SH.hf, SH.hb]
  exact bitG_same _ _ (Nat.lt_of_le_of_lt Nat.and_le_right (by have := bits2; rw [SH.hb] at this; omega))
 have br : (hbits = 15 ∧ rest = 12) ∨ (hbits = 31 ∧ rest = 28) := by
  rw [SH.hb, ← hrest]
  unfold bitG
  by_cases h : x.getD 0 0 < 128
  · rw [if_pos h, if_pos h]; exact Or.inr ⟨rfl, rfl⟩
  · rw [if_neg h, if_neg h]; exact Or.inl ⟨rfl, rfl⟩
 have lah : ah.length = at_ + m := by
  rw [SH.hah, hidN_length, List.length_take, LX.out]
  omega
 have bah : Bytes ah := by
  rw [SH.hah]
  exact hidN_bytes BM8 (BX.out.take _) _ _ _
 have ah0 : ah.getD 0 0 = f := by
  rw [SH.hah, hid_first _ _ _ _ _ (by rw [List.length_take, LX.out]; omega), SH.hf]
  congr 1
  rw [List.getD_eq_getElem?_getD, List.getElem?_take, if_pos (by omega), ← List.getD_eq_getElem?_getD]
 have s64 : s < 18446744073709551616 := by
  rw [SH.hs]
  have h := beN_lt (ah.drop at_) (bah.drop _) 0
  rw [List.length_drop, lah, Nat.add_sub_cancel_left] at h
  have : m = 1 ∨ m = 2 ∨ m = 3 ∨ m = 4 := by omega
  rcases this with rfl | rfl | rfl | rfl <;> simp at h <;> omega
 have CSH := Lib.hid (fun W h => shown_c K N Mk LN.out.1.1 LN.out.1.2.1 LN.out.1.2.2 LN.out.2.2.2 x BX.out (some ⟨g0, q, none⟩) n c at_ a1 (by omega) lx W h hbits f m s ah SH)
 rw [HK.out] at CSH
 have CF := Lib.hid (fun W => full_c s next (m : Int) s64 hn (by rw [IntKind.wrap_i64]; omega) W)
 rw [show fourN (m : Int) = m from fourN_nat m14.1 m14.2, hpn] at CF
 have pn64 : pn < 18446744073709551616 := by rw [← hpn]; exact full_lt s m next m14.1 m14.2 hn
 have CN := Lib.hid (fun W => nonce_c K N Mk LN.out.1.1 LN.out.1.2.1 LN.out.1.2.2 LN.out.2.2.1 pn pn64 W)
 rw [HK.out] at CN
 have HC := Lib.hid (fun W => hidden_c f f8 W)
 rw [fb] at HC
 have CO := Lib.hid (fun pd ps nd ns cd cs h1 h2 W h3 h4 => open_c K (nonceN N pn) ah ((x.take ee).drop (at_ + m)) o pd ps nd ns cd cs LN.out.1.1 (nonceN_length _ _) LN.out.2.1 (nonceN_bytes LN.out.2.2.1 pn) bah ((BX.out.take _).drop _) h1 h2 ho.symm W h3 h4)
 obtain ⟨i, hi⟩ : ∃ i, at_ + m = i := ⟨_, rfl⟩
 rw [hi] at lah CO
 have fi : IntKind.i64.wrap ((at_ : Int) + (m : Int)) = (i : Int) := by rw [IntKind.wrap_i64]; omega
 have fj : IntKind.i64.wrap ((i : Int) - (at_ : Int)) = (m : Int) := by rw [IntKind.wrap_i64]; omega
 have HS := Lib.hid (show SB w1 (.slice (some ⟨g0, q + i, none⟩) (ee - i) (c - i)) ((x.take ee).drop i) by
  rw [← tail_eq g0 q i ee c (by omega)]
  exact (hb.out.head ee een).tail i (by omega))
 have f1 : bits BinOp.and IntKind.u8 (f : Int) (hbits : Int) = ((f &&& hbits : Nat) : Int) := and_low f hbits f8 bits2
 have f2 := and_not f f8 hbits rest br
 have OG2 := Lib.hid (HG.out.symm.trans OG)
 have AH := Lib.hid (And.intro lah (And.intro ah0 (show 1 ≤ i by omega)))
 have ARI := Lib.hid (show i ≤ ee ∧ ee ≤ c ∧ i < c ∧ i ≤ 1000 ∧ ee - i ≤ 1000 ∧ m ≤ 4 ∧ 1 ≤ m by omega)
 have NC := Lib.hid (show (ee : Int) ≤ (c : Int) ∧ (i : Int) ≤ (ee : Int) ∧ ¬ c = i by omega)
 clear HG OG hA SH hrest hpn ho bits2 BM8 f8 fb br lah bah ah0 s64 pn64 hi e20 een a1 lc m14 lx hn
 go_upto_region 3 with fail
 rename_i aK
 refine wp_region_seq ?_
 refine wpSeq_yield (S := fun w' => w' = w1) (show YieldsIf _ _ _ _ (.agg KC) _ from yieldsIf_row_wanted (S := fun w' => w' = w1) rfl 30 _ rfl W.heap.size rfl 30 _ _ (fun _ h => h ▸ K0.out) Tryd.underlying30 rfl (info_keys KC KZ.out)) rfl ?_
 simp only [AP]
 refine smv (.slice (some ⟨g0, q, none⟩) n c) rfl rfl rfl ?_
 simp only [AP]
 refine smv (.int .i64 (at_ : Int)) rfl rfl rfl ?_
 simp only [AP]
 refine wpSeq_wp rfl ?_
 unfold Oper.wp execOp
 go_simp
 refine (CSH.out w1 hb.out).mono ?_
 rintro _ w2 ⟨v5, rfl, O5, b2⟩
 replace O5 := O5.mono (show W.heap.size ≤ w1.heap.size from b0.out.size)
 rcases O5.row with ⟨_, e⟩ | ⟨g, cx, hv5, lg, lc, _, A5, _⟩
 ·
  have : ah.length = 0 := by rw [e]; rfl
  have := AH.out
  omega
 rw [AH.out.1] at hv5 lc
 subst hv5
 replace K0 := Lib.hid (K0.out.below' b2)
 replace b0 := Lib.hid (b0.out.trans (b2.mono b0.out.size))
 replace HS := Lib.hid (HS.out.below b2)
 replace O5 := Lib.hid O5
 clear A5 lg lc b2 CSH hb
 go_simp
 refine smv (.tuple #[.slice (some ⟨g, 0, none⟩) i cx, .int .u64 (s : Int)]) rfl rfl rfl ?_
 simp only [AP]
 refine svl (.slice (some ⟨g, 0, none⟩) i cx) (.inl ⟨by rfl, fun w' _ => by go_simp⟩) ?_
 simp only [AP]
 refine svl (.int .u64 (s : Int)) (.inl ⟨by rfl, fun w' _ => by go_simp⟩) ?_
 simp only [AP]
 refine sas (.slice (some ⟨g, 0, none⟩) i cx) rfl rfl rfl ?_
 simp only [AP]
 refine sas (.int .u64 (s : Int)) rfl rfl rfl ?_
 simp only [AP]
 refine wpSeq_nil ?_
 refine (by assumption : ∀ (a : Act) (w : World), _ → _) _ _ ?_
 go_upto_region 4 with fail
 rename_i aK
 refine wp_region_seq ?_
 refine smv (.slice (some ⟨g, 0, none⟩) i cx) rfl rfl rfl ?_
 simp only [AP]
 refine svl (.int .i64 (i : Int)) (.inl ⟨by rfl, fun w' _ => by go_simp⟩) ?_
 simp only [AP]
 refine smv (.int .i64 (at_ : Int)) rfl rfl rfl ?_
 simp only [AP]
 refine svl (.int .i64 (m : Int)) (.inl ⟨by rfl, fun w' _ => by go_simp⟩) ?_
 simp only [AP]
 refine sas (.int .i64 (m : Int)) rfl rfl rfl ?_
 simp only [AP]
 refine wpSeq_nil ?_
 refine (by assumption : ∀ (a : Act) (w : World), _ → _) _ _ ?_
 go_upto_region 5 with fail
 rename_i aK
 refine wp_region_seq ?_
 refine smv (.int .u64 (s : Int)) rfl rfl rfl ?_
 simp only [AP]
 refine smv (.int .i64 (m : Int)) rfl rfl rfl ?_
 simp only [AP]
 refine smv (.int .u64 (next : Int)) rfl rfl rfl ?_
 simp only [AP]
 refine wpSeq_wp rfl ?_
 unfold Oper.wp execOp
 go_simp
 refine (CF.out w2).mono ?_
 rintro _ w3 ⟨rfl, b3⟩
 replace K0 := Lib.hid (K0.out.below' b3)
 replace b0 := Lib.hid (b0.out.trans (b3.mono b0.out.size))
 replace HS := Lib.hid (HS.out.below b3)
 replace O5 := Lib.hid (O5.out.below b3)
 clear b3 CF
 go_simp
 refine sas (.int .u64 (pn : Int)) rfl rfl rfl ?_
 simp only [AP]
 refine wpSeq_nil ?_
 refine (by assumption : ∀ (a : Act) (w : World), _ → _) _ _ ?_
 have bd := below_drew (Below.refl w3.heap.size w3)
 replace K0 := Lib.hid (K0.out.below' bd)
 replace b0 := Lib.hid (b0.out.trans (bd.mono b0.out.size))
 replace HS := Lib.hid (HS.out.below bd)
 replace O5 := Lib.hid (O5.out.below bd)
 clear bd fj
 go_upto_region 6 with fail
 rename_i aK
 refine wp_region_S (S := fun w' => Below w3.drew.heap.size w3.drew w') (by kernel_rfl) ?_
 generalize w3.drew = w4 at *
 have hS := Below.refl w4.heap.size w4
 have RK := Lib.hid (fun (w' : World) (h : Below w4.heap.size w4 w') => ky_key (show Blk w' W.heap.size 30 (Iv .u8 (NI (K ++ (N ++ Mk)))) by rw [HK.out]; exact K0.out.below' h))
 obtain ⟨nc1, nc2, nc3⟩ := NC.out
 refine wpAnyS_takeL 0 (v := .pointer (some ⟨W.heap.size, 0, none⟩)) rfl (by kernel_rfl) (by kernel_rfl) (by kernel_rfl) (fun _ _ _ H => H) (Or.inl ⟨by rfl, fun w' hw' => by (go_simp)⟩) hS ?_
 simp only [AP]
 refine wpAnyS_takeL 1 (v := .agg (Iv .u8 (NI K))) rfl (by kernel_rfl) (by kernel_rfl) (by kernel_rfl) (fun _ _ _ H => H) (show YieldsIf _ _ _ _ (.agg (Iv .u8 (NI K))) _ from yieldsIf_load_mid (S := fun w' => Below w4.heap.size w4 w') rfl 27 _ rfl W.heap.size 0 rfl ((NI K).map (Value.int .u8)) _ RK.out Tryd.underlying27 rfl (by rw [info_ab]; simp [NI, LN.out.1.1])) hS ?_
 simp only [AP]
 refine wpAnyS_takeL 2 (v := .agg KC) rfl (by kernel_rfl) (by kernel_rfl) (by kernel_rfl) (fun _ _ _ H => H) (show YieldsIf _ _ _ _ (.agg KC) _ from yieldsIf_row_wanted (S := fun w' => Below w4.heap.size w4 w') rfl 30 _ rfl W.heap.size rfl 30 _ _ (fun _ h => K0.out.below' h) Tryd.underlying30 rfl (info_keys KC KZ.out)) hS ?_
 simp only [AP]
 refine wpAnyS_takeL 3 (v := .int .u64 (pn : Int)) rfl (by kernel_rfl) (by kernel_rfl) (by kernel_rfl) (fun _ _ _ H => H) (yieldsIf_move rfl _ rfl (.int .u64 (pn : Int)) rfl) hS ?_
 simp only [AP]
 refine wpAnyS_takeL 5 (v := .slice (some ⟨g, 0, none⟩) i cx) rfl (by kernel_rfl) (by kernel_rfl) (by kernel_rfl) (fun _ _ _ H => H) (yieldsIf_move rfl _ rfl (.slice (some ⟨g, 0, none⟩) i cx) rfl) hS ?_
 simp only [AP]
 refine wpAnyS_takeL 6 (v := .slice (some ⟨g0, q, none⟩) n c) rfl (by kernel_rfl) (by kernel_rfl) (by kernel_rfl) (fun _ _ _ H => H) (yieldsIf_move rfl _ rfl (.slice (some ⟨g0, q, none⟩) n c) rfl) hS ?_
 simp only [AP]
 refine wpAnyS_takeL 7 (v := .int .i64 (at_ : Int)) rfl (by kernel_rfl) (by kernel_rfl) (by kernel_rfl) (fun _ _ _ H => H) (yieldsIf_move rfl _ rfl (.int .i64 (at_ : Int)) rfl) hS ?_
 simp only [AP]
 refine wpAnyS_takeL 8 (v := .int .i64 (m : Int)) rfl (by kernel_rfl) (by kernel_rfl) (by kernel_rfl) (fun _ _ _ H => H) (yieldsIf_move rfl _ rfl (.int .i64 (m : Int)) rfl) hS ?_
 simp only [AP]
 refine wpAnyS_takeL 9 (v := .int .i64 (i : Int)) rfl (by kernel_rfl) (by kernel_rfl) (by kernel_rfl) (fun _ _ _ H => H) (Or.inl ⟨by rfl, fun w' hw' => by go_simp⟩) hS ?_
 simp only [AP]
 refine wpAnyS_takeL 10 (v := .int .i64 (ee : Int)) rfl (by kernel_rfl) (by kernel_rfl) (by kernel_rfl) (fun _ _ _ H => H) (yieldsIf_move rfl _ rfl (.int .i64 (ee : Int)) rfl) hS ?_
 simp only [AP]
 refine wpAnyS_takeL 11 (v := .slice (some ⟨g0, q + i, none⟩) (ee - i) (c - i)) rfl (by kernel_rfl) (by kernel_rfl) (by kernel_rfl) (fun _ _ _ H => H) (Or.inl ⟨by rfl, fun w' hw' => by (go_simp)⟩) hS ?_
 simp only [AP]
 clear hS RK nc1 nc2 nc3 fi
 refine gstep 4 rfl rfl (by kernel_rfl) ?_
 unfold Oper.wp execOp
 go_simp
 refine (CN.out w4).mono ?_
 rintro _ w5 ⟨rfl, b5⟩
 refine ⟨b5, ?_⟩
 refine gstep 12 rfl rfl (by kernel_rfl) ?_
 unfold Oper.wp execOp
 go_simp
 refine (CO.out (some ⟨g, 0, none⟩) (some ⟨g0, q + i, none⟩) i (ee - i) cx (c - i) ARI.out.2.2.2.1 ARI.out.2.2.2.2.1 w5 (AH.out.1 ▸ (O5.out.below b5).sb) (HS.out.below b5)).mono ?_
 rintro _ w6 ⟨v6, rfl, O6, b6⟩
 have b7 := b5.trans (b6.mono b5.size)
 refine ⟨b7, ?_⟩
 have O7 := Lib.hid (O6.mono (show W.heap.size ≤ w5.heap.size from Nat.le_trans b0.out.size b5.size))
 replace O5 := Lib.hid (O5.out.below b7)
 replace b0 := Lib.hid (b0.out.trans (b7.mono b0.out.size))
 clear K0 HS CN CO b5 b6 O6
 have hS := b7
 refine wpAnyS_takeL 13 (v := .tuple #[v6, .bool o.isSome]) rfl (by kernel_rfl) (by kernel_rfl) (by kernel_rfl) (fun _ _ _ H => H) (yieldsIf_move rfl _ rfl (.tuple #[v6, .bool o.isSome]) rfl) hS ?_
 simp only [AP]
 refine wpAnyS_takeL 14 (v := v6) rfl (by kernel_rfl) (by kernel_rfl) (by kernel_rfl) (fun _ _ _ H => H) (Or.inl ⟨by rfl, fun w' hw' => by go_simp⟩) hS ?_
 simp only [AP]
 refine wpAnyS_takeL 15 (v := .bool o.isSome) rfl (by kernel_rfl) (by kernel_rfl) (by kernel_rfl) (fun _ _ _ H => H) (Or.inl ⟨by rfl, fun w' hw' => by go_simp⟩) hS ?_
 simp only [AP]
 refine wpAnyS_takeL 16 (v := v6) rfl (by kernel_rfl) (by kernel_rfl) (by kernel_rfl) (fun _ _ _ H => H) (yieldsIf_assign rfl _ rfl (v6) rfl) hS ?_
 simp only [AP]
 refine wpAnyS_takeL 17 (v := .bool o.isSome) rfl (by kernel_rfl) (by kernel_rfl) (by kernel_rfl) (fun _ _ _ H => H) (yieldsIf_assign rfl _ rfl (.bool o.isSome) rfl) hS ?_
 simp only [AP]
 refine wpAnyS_done (by kernel_rfl) ?_ _
 refine (by assumption : ∀ (a : Act) (w : World), _ → _) _ _ ?_
 clear aK hS b7
 cases o with
 | none =>
  have e : G = (11, 0, []) := OG2.out
  subst e
  simp only [Option.isSome_none]
  go_upto_region 7 with fail
  rename_i aK
  refine wp_region_seq ?_
  refine smv (.bool false) rfl rfl rfl ?_
  simp only [AP]
  refine svl (.bool true) (.inl ⟨by rfl, fun w' _ => by go_simp⟩) ?_
  simp only [AP]
  refine wpSeq_nil ?_
  refine (by assumption : ∀ (a : Act) (w : World), _ → _) _ _ ?_
  go_upto_region 8 with fail
  rename_i aK
  refine wp_region_seq ?_
  refine sas (.int .u64 0) rfl rfl rfl ?_
  simp only [AP]
  refine sas (.slice none 0 0) rfl rfl rfl ?_
  simp only [AP]
  refine sas (.int .i64 11) rfl rfl rfl ?_
  simp only [AP]
  refine wpSeq_nil ?_
  refine (by assumption : ∀ (a : Act) (w : World), _ → _) _ _ ?_
  go_wp2
  refine bodyPost_ret (results_tmp3 rfl _ _ _) rfl ?_
  exact ⟨.slice none 0 0, rfl, OwL.nil _ _, b0.out⟩
 | some tt =>
  simp only [Option.isSome_some]
  replace O7 := Lib.hid (show OwL W.heap.size w6 v6 tt from O7.out)
  go_upto_region 7 with fail
  rename_i aK
  refine wp_region_seq ?_
  refine smv (.bool true) rfl rfl rfl ?_
  simp only [AP]
  refine svl (.bool false) (.inl ⟨by rfl, fun w' _ => by go_simp⟩) ?_
  simp only [AP]
  refine wpSeq_nil ?_
  refine (by assumption : ∀ (a : Act) (w : World), _ → _) _ _ ?_
  have bd := below_drew (Below.refl w6.heap.size w6)
  replace b0 := Lib.hid (b0.out.trans (bd.mono b0.out.size))
  replace O7 := Lib.hid (O7.out.below bd)
  replace O5 := Lib.hid (O5.out.below bd)
  clear bd
  have cx0 := (O5.out.at_cell 0 (by have := AH.out; omega)).1
  rw [AH.out.2.1] at cx0
  replace cx0 := Lib.hid cx0
  have i1 := AH.out.2.2
  go_upto_region 9 with fail
  rename_i aK
  refine wp_region_S (S := fun w' => Below w6.drew.heap.size w6.drew w') (by kernel_rfl) ?_
  generalize w6.drew = w7 at *
  have hS := Below.refl w7.heap.size w7
  have CX := Lib.hid (fun (w' : World) (h : Below w7.heap.size w7 w') => show w'.cell? ⟨g, 0, none⟩ = some (.int .u8 (f : Int)) by have := ((O5.out.below h).at_cell 0 (by have := AH.out; omega)).1; rw [AH.out.2.1] at this; exact this)
  refine wpAnyS_takeL 0 (v := .slice (some ⟨g, 0, none⟩) i cx) rfl (by kernel_rfl) (by kernel_rfl) (by kernel_rfl) (fun _ _ _ H => H) (yieldsIf_move rfl _ rfl (.slice (some ⟨g, 0, none⟩) i cx) rfl) hS ?_
  simp only [AP]
  refine wpAnyS_takeL 1 (v := .pointer (some ⟨g, 0, none⟩)) rfl (by kernel_rfl) (by kernel_rfl) (by kernel_rfl) (fun _ _ _ H => H) (Or.inl ⟨by rfl, fun w' hw' => by (go_simp; try omega)⟩) hS ?_
  simp only [AP]
  refine wpAnyS_takeL 2 (v := .int .u8 (f : Int)) rfl (by kernel_rfl) (by kernel_rfl) (by kernel_rfl) (fun _ _ _ H => H) (Or.inl ⟨by rfl, fun w' hw' => by (have cc := CX.out w' hw'; go_simp)⟩) hS ?_
  simp only [AP]
  refine wpAnyS_takeL 3 (v := .slice (some ⟨g, 0, none⟩) i cx) rfl (by kernel_rfl) (by kernel_rfl) (by kernel_rfl) (fun _ _ _ H => H) (yieldsIf_move rfl _ rfl (.slice (some ⟨g, 0, none⟩) i cx) rfl) hS ?_
  simp only [AP]
  refine wpAnyS_takeL 4 (v := .pointer (some ⟨g, 0, none⟩)) rfl (by kernel_rfl) (by kernel_rfl) (by kernel_rfl) (fun _ _ _ H => H) (Or.inl ⟨by rfl, fun w' hw' => by (go_simp; try omega)⟩) hS ?_
  simp only [AP]
  refine wpAnyS_takeL 5 (v := .int .u8 (f : Int)) rfl (by kernel_rfl) (by kernel_rfl) (by kernel_rfl) (fun _ _ _ H => H) (Or.inl ⟨by rfl, fun w' hw' => by (have cc := CX.out w' hw'; go_simp)⟩) hS ?_
  simp only [AP]
  refine gstep 6 rfl rfl (by kernel_rfl) ?_
  unfold Oper.wp execOp
  go_simp
  refine (HC.out w7).mono ?_
  rintro _ w8 ⟨rfl, b8⟩
  refine ⟨b8, ?_⟩
  replace b0 := Lib.hid (b0.out.trans (b8.mono b0.out.size))
  replace O7 := Lib.hid (O7.out.below b8)
  have hS := b8
  clear CX cx0 O5 HC
  by_cases z : f &&& rest ≠ 0
  ·
   have e : G = (5, 0, []) := OG2.out.trans (if_pos z)
   subst e
   refine wpAnyS_takeL 7 (v := .int .u8 ((f &&& hbits : Nat) : Int)) rfl (by kernel_rfl) (by kernel_rfl) (by kernel_rfl) (fun _ _ _ H => H) (Or.inl ⟨by rfl, fun w' hw' => by go_simp⟩) hS ?_
   simp only [AP]
   refine wpAnyS_takeL 8 (v := .int .u8 ((f &&& rest : Nat) : Int)) rfl (by kernel_rfl) (by kernel_rfl) (by kernel_rfl) (fun _ _ _ H => H) (Or.inl ⟨by rfl, fun w' hw' => by go_simp⟩) hS ?_
   simp only [AP]
   refine wpAnyS_takeL 9 (v := .bool true) rfl (by kernel_rfl) (by kernel_rfl) (by kernel_rfl) (fun _ _ _ H => H) (Or.inl ⟨by rfl, fun w' hw' => by (go_simp; try omega)⟩) hS ?_
   simp only [AP]
   refine wpAnyS_done (by kernel_rfl) ?_ _
   refine (by assumption : ∀ (a : Act) (w : World), _ → _) _ _ ?_
   clear aK hS b8 f1 f2
   go_upto_region 10 with fail
   rename_i aK
   refine wp_region_seq ?_
   refine sas (.int .u64 0) rfl rfl rfl ?_
   simp only [AP]
   refine sas (.slice none 0 0) rfl rfl rfl ?_
   simp only [AP]
   refine sas (.int .i64 5) rfl rfl rfl ?_
   simp only [AP]
   refine wpSeq_nil ?_
   refine (by assumption : ∀ (a : Act) (w : World), _ → _) _ _ ?_
   go_wp2
   refine bodyPost_ret (results_tmp3 rfl _ _ _) rfl ?_
   exact ⟨.slice none 0 0, rfl, OwL.nil _ _, b0.out⟩
  ·
   have e : G = (0, pn, tt) := OG2.out.trans (if_neg z)
   subst e
   refine wpAnyS_takeL 7 (v := .int .u8 ((f &&& hbits : Nat) : Int)) rfl (by kernel_rfl) (by kernel_rfl) (by kernel_rfl) (fun _ _ _ H => H) (Or.inl ⟨by rfl, fun w' hw' => by go_simp⟩) hS ?_
   simp only [AP]
   refine wpAnyS_takeL 8 (v := .int .u8 ((f &&& rest : Nat) : Int)) rfl (by kernel_rfl) (by kernel_rfl) (by kernel_rfl) (fun _ _ _ H => H) (Or.inl ⟨by rfl, fun w' hw' => by go_simp⟩) hS ?_
   simp only [AP]
   refine wpAnyS_takeL 9 (v := .bool false) rfl (by kernel_rfl) (by kernel_rfl) (by kernel_rfl) (fun _ _ _ H => H) (Or.inl ⟨by rfl, fun w' hw' => by (go_simp; try omega)⟩) hS ?_
   simp only [AP]
   refine wpAnyS_done (by kernel_rfl) ?_ _
   refine (by assumption : ∀ (a : Act) (w : World), _ → _) _ _ ?_
   clear aK hS b8 f1 f2
   go_upto_region 11 with fail
   rename_i aK
   refine wp_region_seq ?_
   refine smv (.int .u64 (pn : Int)) rfl rfl rfl ?_
   simp only [AP]
   refine smv (v6) rfl rfl rfl ?_
   simp only [AP]
   refine sas (.int .u64 (pn : Int)) rfl rfl rfl ?_
   simp only [AP]
   refine sas (v6) rfl rfl rfl ?_
   simp only [AP]
   refine sas (.int .i64 0) rfl rfl rfl ?_
   simp only [AP]
   refine wpSeq_nil ?_
   refine (by assumption : ∀ (a : Act) (w : World), _ → _) _ _ ?_
   go_wp2
   refine bodyPost_ret (results_tmp3 rfl _ _ _) rfl ?_
   exact ⟨v6, rfl, O7.out, b0.out⟩
theorem gopen_c : GOpenC := fun K N Mk x a e next vx lK lN lM bK bN bM bx lx wa we hn W hb => gopen_w K N Mk x a e next vx lK lN lM bK bN bM bx lx wa we hn W hb _ rfl
end Go.Proofs.YtpihgljdbpnehaaDoor
