/- The program's Seal: its contract (printed by gen13/qf.py). -/
import Derived.Test.YtpihgljdbpnehaaDoorQd0Wd
import Derived.Test.YtpihgljdbpnehaaDoorWk
import Derived.Test.YtpihgljdbpnehaaDoorHPa
import Derived.Test.YtpihgljdbpnehaaDoorHPd
import Derived.Laws.OwnMore
namespace Go.Proofs.YtpihgljdbpnehaaDoor
open Go.RowKit
theorem iv_vals (l : List Nat) : (Iv .u8 (NI l)).toList = vals l := by simp [Iv, NI, vals]
theorem iv_of (l : List Nat) : (vals l).toArray = Iv .u8 (NI l) := by rw [← iv_vals]
theorem splice_vals (l m : List Nat) (off : Nat) : (splice (vals l) off (vals m)).toArray = Iv .u8 (NI (splice l off m)) := by
 rw [← iv_of]
 congr 1
 simp [splice, vals]
/-- Bytes copied into a row. -/
theorem wp_copy_in {o : Oper} {a : Act} {w : World} {K : Act → World → Prop} {Q : Exit → Act → World → Prop} (d s : Operand) (ho : o.op = .call { callee := .builtin .copy, args := #[d, s], argTypes := #[24, 24] })
  (g off dLen dCap : Nat) (hd : a.eval d = .slice (some ⟨g, off, none⟩) dLen dCap) (v : Value) (m l : List Nat) (t : TypeId) (hs : a.eval s = v) (hm : SB w v m) (hg : Blk w g t (Iv .u8 (NI l))) (hml : m.length ≤ dLen) (hfit : off + dLen ≤ l.length)
  (h : ∀ w', Blk w' g t (Iv .u8 (NI (splice l off m))) → w.grownBy w' (some g) → K (a.put o.dst (goInt m.length)) w') : o.wp Tryd.prog a w K Q := by
 have hu := Tryd.underlying24
 have hsz : (Tryd.prog.info? 5).map (·.size) = some 1 := by kernel_rfl
 have id0 : w.grownBy w (some g) := ⟨rfl, rfl, rfl, Nat.le_refl _, fun _ _ _ => rfl⟩
 obtain ⟨p, c, rfl, hc, h0⟩ := hm
 by_cases e0 : m.length = 0
 ·
  have e1 := List.length_eq_zero_iff.1 e0
  subst e1
  have hrun := run_copy_none (P := Tryd.prog) w 24 24 o.type 5 (some ⟨g, off, none⟩) p dLen dCap ([] : List Nat).length c hu hsz (Nat.min_eq_left (Nat.zero_le _))
  have hK := h w (by simpa [splice] using hg) id0
  unfold Oper.wp
  simp only [execOp, ho, resolve, invoke, builtin, Sem.run_bind, Sem.run_pure, Result.andThen_ok, List.map_toArray, List.map_cons, List.map_nil, hd, hs, hrun]
  exact hK
 ·
  rcases h0 with h1 | ⟨g1, o1, rfl, hA⟩
  ·
   rw [h1] at e0
   exact absurd rfl e0
  ·
   have hrun := run_copy_row (P := Tryd.prog) w 24 24 o.type 5 g off dLen dCap ⟨g1, o1, none⟩ m.length c (Iv .u8 (NI l)) t (vals m) hu hsz hg (by rw [vals_length]; exact (Nat.min_eq_left hml).symm) (cells_at hA) (by rw [vals_length, Iv_size, NI_length]; omega) (one_at m)
   have hK := h (w.setRow g (Iv .u8 (NI (splice l off m)))) (Blk.row hg _) ⟨rfl, rfl, rfl, by simp [World.setRow], fun k _ hk => setRow_other w g k _ (fun e => hk (by rw [e]))⟩
   unfold Oper.wp
   simp only [execOp, ho, resolve, invoke, builtin, Sem.run_bind, Sem.run_pure, Result.andThen_ok, List.map_toArray, List.map_cons, List.map_nil, hd, hs, hrun]
   rw [show ((Iv IntKind.u8 (NI l)).toList.take off ++ vals m ++ (Iv IntKind.u8 (NI l)).toList.drop (off + (vals m).length)).toArray = Iv .u8 (NI (splice l off m)) by rw [iv_vals, List.append_assoc]; exact splice_vals l m off, vals_length]
   exact hK
theorem run_make8 (n : Nat) (hn : n ≤ 100000) (W : World) : (Instr.makeSlice 24 (.int .i64 (n : Int)) (.int .i64 (n : Int))).run Tryd.prog W = .ok (.slice (some ⟨W.heap.size, 0, none⟩) n n) (W.alloc (.cells (Iv .u8 (NI (List.replicate n 0))) 5)) := by
 obtain ⟨i, hi, hs, hy, hz⟩ := info_u8
 have h := run_make_row (P := Tryd.prog) 24 5 i (.int .u8 0) Tryd.underlying24 hi hz hs rfl .i64 .i64 n (by rw [hy]; omega) (by omega) W
 rw [h, show madeCells #[Value.int IntKind.u8 0] n = Iv .u8 (NI (List.replicate n 0)) by
  rw [← iv_of]
  apply Array.toList_inj.1
  rw [toList_madeCells_one]
  simp [vals]]
theorem splice_pad (n : Nat) (b : List Nat) (z : Nat) (hz : z = max b.length (4 - n)) : splice (List.replicate z 0) 0 b = padN n b := by
 unfold splice padN
 rw [List.take_zero, List.nil_append, List.drop_replicate]
 congr 2
 omega
theorem first_bits (sp : Int) (to fr : List Nat) (pn n z : Nat) (hd S : List Nat) (h1 : 1 ≤ n) (h4 : n ≤ 4) (h : putF sp to fr pn (n : Int) (z : Int) = (0, hd)) (hl : 0 < hd.length) : bitG ((hd ++ S).getD 0 0) = if sp = 2 then 31 else 15 := by
 rw [List.getD_eq_getElem?_getD, List.getElem?_append_left hl, ← List.getD_eq_getElem?_getD]
 unfold putF at h
 by_cases hb : badH sp to.length fr.length (n : Int) (z : Int)
 ·
  rw [if_pos hb] at h
  cases h
 ·
  rw [if_neg hb] at h
  have e : headB sp.toNat to fr pn (n : Int).toNat (z : Int).toNat = hd := (Prod.mk.inj h).2
  unfold badH at hb
  rw [← e, headB_first, Int.toNat_natCast]
  unfold bitG
  by_cases s2 : sp = 2
  ·
   subst s2
   rw [if_pos (show (2 : Int).toNat = 2 from rfl), if_pos rfl, if_pos (by omega)]
  · rw [if_neg (show ¬ sp.toNat = 2 by omega), if_neg s2, if_neg (by omega)]
/-- What stands while a packet is sealed: the keys. -/
structure KV (W : World) (kc : Array Value) (w : World) : Prop where
 ky : Blk w W.heap.size 30 kc
 bel : Below W.heap.size W w
theorem KV.step {W w w' : World} {kc : Array Value} (h : KV W kc w) (b : Below w.heap.size w w') : KV W kc w' := ⟨h.ky.below' b, h.bel.trans (b.mono h.bel.size)⟩
theorem KV.grow {W w w' : World} {kc : Array Value} {row : Option Nat} (h : KV W kc w) (g : w.grownBy w' row) (hr : ∀ j, row = some j → W.heap.size + 1 ≤ j) : KV W kc w' :=
 ⟨(g.block _ h.ky.lt (fun e => by have := hr _ e.symm; omega)).trans h.ky, below_grown' h.bel g (fun j e => by have := hr j e; omega) h.bel.size⟩
theorem load_hdS2 {ops : Array Oper} {S : World → Prop} {o : Oper} {a : Act} (hgd : Region.wanted o (yielded ops a.tmps) = true) (x : Operand) (ho : o.op = .load 42 x) (g : Nat) (hx : a.eval x = .pointer (some ⟨g, 0, none⟩)) (sp : Int) (vt vf : Value) (K : ∀ w, S w → Blk w g 42 #[.int .i64 sp, vt, vf]) : YieldsIf Tryd.prog ops S o (.agg #[.int .i64 sp, vt, vf]) a := load_hdS hgd x ho g hx sp vt vf K
set_option maxHeartbeats 16000000 in
set_option maxRecDepth 100000 in
theorem gseal_w (K N Mk : List Nat) (lK : K.length = 16) (lN : N.length = 12) (lM : Mk.length = 16) (bK : Bytes K) (bN : Bytes N) (bM : Bytes Mk) (sp : Int) (ws : i64_ok sp) (to fr : List Nat) (pn acked : Nat) (b : List Nat) (vt vf vb : Value) (W : World)
  (ht : to.length ≤ 100) (hf : fr.length ≤ 100) (bt : Bytes to) (bf : Bytes fr) (hp : pn < 18446744073709551616) (_ha : acked < 18446744073709551616) (bb : Bytes b) (lb : b.length ≤ 200) (h1 : SB W vt to) (h2 : SB W vf fr) (h3 : SB W vb b) (G : Nat × List Nat) (hG : sealG K N Mk sp to fr pn acked b = G) :
  Calls Tryd.prog 16 #[.agg (Iv .u8 (NI (K ++ (N ++ Mk)))), hdV sp vt vf, .int .u64 (pn : Int), .int .u64 (acked : Int), vb] W fun e w' => ∃ v, e = .returned (.tuple #[v, .int .i64 ((G.1 : Nat) : Int)]) ∧ OwL W.heap.size w' v G.2 ∧ Below W.heap.size W w' := by
 obtain ⟨p1, c1, rfl⟩ := h1.shape
 obtain ⟨p2, c2, rfl⟩ := h2.shape
 obtain ⟨p3, c3, rfl⟩ := h3.shape
 have KZ := Lib.hid (keys_size lK lN lM)
 have LN := Lib.hid (And.intro (And.intro lK (And.intro lN lM)) (And.intro bK (And.intro bN bM)))
 have FT := Lib.hid (And.intro (And.intro ht hf) (And.intro bt bf))
 clear lK lN lM bK bN bM ht hf bt bf _ha
 have P0 := Lib.hid bb
 obtain ⟨k0, hk0⟩ : ∃ k0, b.length = k0 := ⟨_, rfl⟩
 obtain ⟨m, hm⟩ : ∃ m, to.length = m := ⟨_, rfl⟩
 obtain ⟨n2, hn2⟩ : ∃ n2, fr.length = n2 := ⟨_, rfl⟩
 show Calls Tryd.prog 16 #[.agg (Iv .u8 (NI (K ++ (N ++ Mk)))), .agg #[.int .i64 sp, .slice p1 to.length c1, .slice p2 fr.length c2], .int .u64 (pn : Int), .int .u64 (acked : Int), .slice p3 b.length c3] W _
 rw [hk0] at h3 lb ⊢
 rw [hm] at h1 ⊢
 rw [hn2] at h2 ⊢
 have HKL := Lib.hid hk0
 clear hk0 hm hn2 bb
 have HG := Lib.hid hG
 clear hG
 obtain ⟨KC, hKC⟩ : ∃ KC, Iv .u8 (NI (K ++ (N ++ Mk))) = KC := ⟨_, rfl⟩
 rw [hKC] at KZ ⊢
 have HK := Lib.hid hKC
 clear hKC
 obtain ⟨HC, hHC⟩ : ∃ HC, (#[.int .i64 sp, .slice p1 m c1, .slice p2 n2 c2] : Array Value) = HC := ⟨_, rfl⟩
 rw [hHC]
 have HH := Lib.hid hHC
 clear hHC
 go_enter Tryd.func16, Tryd.ntmps16
 go_upto_region 0 with fail
 rename_i aK
 refine wp_region_seq ?_
 refine wpSeq_wp rfl ?_
 unfold Oper.wp execOp
 go_simp
 refine wpSeq_wp rfl ?_
 unfold Oper.wp execOp
 go_simp
 refine sas (.slice none 0 0) rfl rfl rfl ?_
 simp only [AP]
 refine sas (.int .i64 0) rfl rfl rfl ?_
 simp only [AP]
 refine wpSeq_nil ?_
 refine aK _ _ ?_
 clear aK
 have F := two_alloc W 30 42 KC HC
 generalize World.alloc (World.alloc W _) _ = w2 at *
 have P := Lib.hid (KV.mk F.1 F.2.2)
 have KH := Lib.hid F.2.1
 replace h1 := Lib.hid (h1.below F.2.2)
 replace h2 := Lib.hid (h2.below F.2.2)
 replace h3 := Lib.hid (h3.below F.2.2)
 clear F
 by_cases q1 : 4611686018427387904 ≤ pn
 ·
  skip
  go_upto_region 1 with fail
  rename_i aK
  refine wp_region_seq ?_
  refine smv (.int .u64 (pn : Int)) rfl rfl rfl ?_
  simp only [AP]
  refine svl (.bool true) (.inl ⟨by rfl, fun w' _ => by (go_simp; try omega)⟩) ?_
  simp only [AP]
  refine smv (.bool true) rfl rfl rfl ?_
  simp only [AP]
  refine wpSeq_yield (S := fun _ => True) (yieldsIf_off rfl) trivial ?_
  simp only [AP]
  refine wpSeq_yield (S := fun _ => True) (yieldsIf_off rfl) trivial ?_
  simp only [AP]
  refine wpSeq_yield (S := fun _ => True) (yieldsIf_off rfl) trivial ?_
  simp only [AP]
  refine wpSeq_yield (S := fun _ => True) (yieldsIf_pick rfl _ _ _ rfl true rfl (.bool true) rfl) trivial ?_
  simp only [AP]
  refine wpSeq_nil ?_
  refine (by assumption : ∀ (a : Act) (w : World), _ → _) _ _ ?_
  go_upto_region 2 with fail
  rename_i aK
  refine wp_region_seq ?_
  refine sas (.slice none 0 0) rfl rfl rfl ?_
  simp only [AP]
  refine sas (.int .i64 2) rfl rfl rfl ?_
  simp only [AP]
  refine wpSeq_nil ?_
  refine (by assumption : ∀ (a : Act) (w : World), _ → _) _ _ ?_
  go_wp2
  refine bodyPost_ret (results_tmp2 rfl _ _ _) rfl ?_
  have e : G = (2, []) := HG.out.symm.trans (if_pos (Or.inl q1))
  subst e
  exact ⟨_, rfl, OwL.nil _ _, P.out.bel⟩
 by_cases q2 : pn < acked
 ·
  skip
  go_upto_region 1 with fail
  rename_i aK
  refine wp_region_seq ?_
  refine smv (.int .u64 (pn : Int)) rfl rfl rfl ?_
  simp only [AP]
  refine svl (.bool false) (.inl ⟨by rfl, fun w' _ => by (go_simp; try omega)⟩) ?_
  simp only [AP]
  refine smv (.bool false) rfl rfl rfl ?_
  simp only [AP]
  refine smv (.int .u64 (acked : Int)) rfl rfl rfl ?_
  simp only [AP]
  refine smv (.int .u64 (pn : Int)) rfl rfl rfl ?_
  simp only [AP]
  refine svl (.bool true) (.inl ⟨by rfl, fun w' _ => by (go_simp; try omega)⟩) ?_
  simp only [AP]
  refine wpSeq_yield (S := fun _ => True) (yieldsIf_pick rfl _ _ _ rfl false rfl (.bool true) rfl) trivial ?_
  simp only [AP]
  refine wpSeq_nil ?_
  refine (by assumption : ∀ (a : Act) (w : World), _ → _) _ _ ?_
  go_upto_region 2 with fail
  rename_i aK
  refine wp_region_seq ?_
  refine sas (.slice none 0 0) rfl rfl rfl ?_
  simp only [AP]
  refine sas (.int .i64 2) rfl rfl rfl ?_
  simp only [AP]
  refine wpSeq_nil ?_
  refine (by assumption : ∀ (a : Act) (w : World), _ → _) _ _ ?_
  go_wp2
  refine bodyPost_ret (results_tmp2 rfl _ _ _) rfl ?_
  have e : G = (2, []) := HG.out.symm.trans (if_pos (Or.inr q2))
  subst e
  exact ⟨_, rfl, OwL.nil _ _, P.out.bel⟩
 go_upto_region 1 with fail
 rename_i aK
 refine wp_region_seq ?_
 refine smv (.int .u64 (pn : Int)) rfl rfl rfl ?_
 simp only [AP]
 refine svl (.bool false) (.inl ⟨by rfl, fun w' _ => by (go_simp; try omega)⟩) ?_
 simp only [AP]
 refine smv (.bool false) rfl rfl rfl ?_
 simp only [AP]
 refine smv (.int .u64 (acked : Int)) rfl rfl rfl ?_
 simp only [AP]
 refine smv (.int .u64 (pn : Int)) rfl rfl rfl ?_
 simp only [AP]
 refine svl (.bool false) (.inl ⟨by rfl, fun w' _ => by (go_simp; try omega)⟩) ?_
 simp only [AP]
 refine wpSeq_yield (S := fun _ => True) (yieldsIf_pick rfl _ _ _ rfl false rfl (.bool false) rfl) trivial ?_
 simp only [AP]
 refine wpSeq_nil ?_
 refine (by assumption : ∀ (a : Act) (w : World), _ → _) _ _ ?_
 have SC := Lib.hid (fun w => short_c pn acked (by omega) (by omega) w)
 have NO := Lib.hid (show ¬ (4611686018427387904 ≤ pn ∨ pn < acked) by omega)
 have n4 := shortN_is pn acked
 have CNN := Lib.hid (fun W => nonce_c K N Mk LN.out.1.1 LN.out.1.2.1 LN.out.1.2.2 LN.out.2.2.1 pn hp W)
 rw [HK.out] at CNN
 obtain ⟨n, hn⟩ : ∃ n, shortN pn acked = n := ⟨_, rfl⟩
 rw [hn] at SC n4
 have HN := Lib.hid hn
 have hp4 := Lib.hid hp
 clear hn q1 q2
 go_upto_region 3 with fail
 rename_i aK
 refine wp_region_seq ?_
 refine smv (.int .u64 (pn : Int)) rfl rfl rfl ?_
 simp only [AP]
 refine smv (.int .u64 (acked : Int)) rfl rfl rfl ?_
 simp only [AP]
 refine wpSeq_wp rfl ?_
 unfold Oper.wp execOp
 go_simp
 refine (SC.out _).mono ?_
 rintro _ w3 ⟨rfl, b3⟩
 replace P := Lib.hid (P.out.step b3)
 replace KH := Lib.hid (KH.out.below' b3)
 replace h1 := Lib.hid (h1.out.below b3)
 replace h2 := Lib.hid (h2.out.below b3)
 replace h3 := Lib.hid (h3.out.below b3)
 clear b3 SC
 go_simp
 refine sas (.int .i64 (n : Int)) rfl rfl rfl ?_
 simp only [AP]
 refine wpSeq_nil ?_
 refine (by assumption : ∀ (a : Act) (w : World), _ → _) _ _ ?_
 obtain ⟨r, hr⟩ : ∃ r, 4 - n = r := ⟨_, rfl⟩
 have r0 : (4 : Int) - (n : Int) = (r : Int) := by omega
 have r1 : IntKind.i64.wrap (r : Int) = (r : Int) := by rw [IntKind.wrap_i64]; omega
 obtain ⟨k, hk⟩ : ∃ k, max k0 r = k := ⟨_, rfl⟩
 have k1 : (k0 < r ∧ k = r) ∨ (r ≤ k0 ∧ k = k0) := by omega
 have k2 : k ≤ 200 ∧ k0 ≤ k ∧ 4 ≤ n + k := by omega
 have k3 := Lib.hid k2
 obtain ⟨c, hc⟩ : ∃ c, padN n b = c := ⟨_, rfl⟩
 have HSP := Lib.hid (show splice (List.replicate k 0) 0 b = c from (splice_pad n b k (by rw [← hk, HKL.out, hr])).trans hc)
 have lc : c.length = k := by rw [← hc, padN_length, HKL.out]; omega
 have bc : Bytes c := by rw [← hc]; exact padN_bytes n P0.out
 have LC := Lib.hid (And.intro lc bc)
 have HB := Lib.hid hc
 have n4 := Lib.hid n4
 clear hr hk k2 hc lc bc hp
 go_upto_region 4 with fail
 rename_i aK
 refine wp_region_seq ?_
 refine smv (.slice p3 k0 c3) rfl rfl rfl ?_
 simp only [AP]
 refine svl (.int .i64 (k0 : Int)) (.inl ⟨by rfl, fun w' _ => by go_simp⟩) ?_
 simp only [AP]
 refine smv (.int .i64 (n : Int)) rfl rfl rfl ?_
 simp only [AP]
 refine svl (.int .i64 (r : Int)) (.inl ⟨by rfl, fun w' _ => by go_simp⟩) ?_
 simp only [AP]
 refine svl (.int .i64 (k : Int)) (.inl ⟨by rfl, fun w' _ => by (go_simp; split <;> omega)⟩) ?_
 simp only [AP]
 refine sas (.int .i64 (k : Int)) rfl rfl rfl ?_
 simp only [AP]
 refine wpSeq_nil ?_
 refine (by assumption : ∀ (a : Act) (w : World), _ → _) _ _ ?_
 clear r0 r1 k1
 have k2 := k3.out
 have z0 : IntKind.i64.wrap ((k : Int) + 16) = ((k + 16 : Nat) : Int) := by rw [IntKind.wrap_i64]; omega
 obtain ⟨pf, hpf⟩ : ∃ pf, putF sp to fr pn (n : Int) ((k + 16 : Nat) : Int) = pf := ⟨_, rfl⟩
 have RH := Lib.hid (show Calls Tryd.prog 26 #[.agg #[.int .i64 sp, .slice p1 m c1, .slice p2 n2 c2], .int .u64 (pn : Int), .int .i64 (n : Int), .int .i64 ((k + 16 : Nat) : Int)] w3 _ from put_c sp to fr pn (n : Int) ((k + 16 : Nat) : Int) (.slice p1 m c1) (.slice p2 n2 c2) w3 ws (by unfold i64_ok; have := n4.out; omega) (by unfold i64_ok; omega) FT.out.2.1 FT.out.2.2 FT.out.1.1 FT.out.1.2 hp4.out h1.out h2.out)
 unfold PutPost at RH
 have SG := HG.out
 unfold sealG at SG
 rw [HN.out, if_neg NO.out, HB.out, LC.out.1, hpf] at SG
 dsimp only at SG
 have OKF : pf.1 = 0 → 9 + n ≤ pf.2.length ∧ pf.2.length ≤ 40 ∧ Bytes pf.2 ∧ 1 ≤ n ∧ n ≤ 4 := fun h => by
  have := putF_ok sp to fr pn n (k + 16) FT.out.2.1 FT.out.2.2 (by rw [hpf]; exact h)
  rw [hpf] at this
  exact this
 rw [hpf] at RH
 have SGH := Lib.hid hpf
 obtain ⟨code, hd⟩ := pf
 dsimp only at RH SG OKF
 clear hpf
 replace OKF := Lib.hid OKF
 replace SG := Lib.hid SG
 go_upto_region 5 with fail
 rename_i aK
 refine wp_region_seq ?_
 refine wpSeq_yield (S := fun w' => w' = w3) (load_hdS2 (S := fun w' => w' = w3) rfl _ rfl (W.heap.size + 1) rfl sp _ _ (fun w h => by rw [h, HH.out]; exact KH.out)) rfl ?_
 simp only [AP]
 refine smv (.int .u64 (pn : Int)) rfl rfl rfl ?_
 simp only [AP]
 refine smv (.int .i64 (n : Int)) rfl rfl rfl ?_
 simp only [AP]
 refine smv (.int .i64 (k : Int)) rfl rfl rfl ?_
 simp only [AP]
 refine svl (.int .i64 ((k + 16 : Nat) : Int)) (.inl ⟨by rfl, fun w' _ => by go_simp⟩) ?_
 simp only [AP]
 refine wpSeq_wp rfl ?_
 unfold Oper.wp execOp
 go_simp
 refine RH.out.mono ?_
 rintro _ w5 ⟨v5, rfl, O5, b5⟩
 have PL := Lib.hid KH.out.lt
 replace P := Lib.hid (P.out.step b5)
 replace h3 := Lib.hid (h3.out.below b5)
 obtain ⟨p5, c5, hv5⟩ := O5.shape
 subst hv5
 obtain ⟨B0, hB0⟩ : ∃ B0, w3.heap.size = B0 := ⟨_, rfl⟩
 rw [hB0] at O5
 have HBB := Lib.hid (show W.heap.size + 2 ≤ B0 ∧ B0 ≤ w5.heap.size by have := b5.size; have := PL.out; omega)
 clear b5 RH h1 h2 hB0 KH PL
 go_simp
 refine smv (.tuple #[.slice p5 hd.length c5, .int .i64 (code : Int)]) rfl rfl rfl ?_
 simp only [AP]
 refine svl (.slice p5 hd.length c5) (.inl ⟨by rfl, fun w' _ => by go_simp⟩) ?_
 simp only [AP]
 refine svl (.int .i64 (code : Int)) (.inl ⟨by rfl, fun w' _ => by go_simp⟩) ?_
 simp only [AP]
 refine sas (.slice p5 hd.length c5) rfl rfl rfl ?_
 simp only [AP]
 refine sas (.int .i64 (code : Int)) rfl rfl rfl ?_
 simp only [AP]
 refine wpSeq_nil ?_
 refine (by assumption : ∀ (a : Act) (w : World), _ → _) _ _ ?_
 obtain ⟨lh, hlh⟩ : ∃ lh, hd.length = lh := ⟨_, rfl⟩
 rw [hlh] at O5
 replace OKF := Lib.hid (show code = 0 → 9 + n ≤ lh ∧ lh ≤ 40 ∧ Bytes hd ∧ 1 ≤ n ∧ n ≤ 4 by rw [← hlh]; exact OKF.out)
 have HL := Lib.hid hlh
 replace O5 := Lib.hid O5
 clear z0 k2
 rw [hlh]
 clear hlh
 by_cases z : code ≠ 0
 ·
  skip
  go_upto_region 6 with fail
  rename_i aK
  refine wp_region_seq ?_
  refine smv (.int .i64 (code : Int)) rfl rfl rfl ?_
  simp only [AP]
  refine svl (.bool true) (.inl ⟨by rfl, fun w' _ => by (go_simp; try omega)⟩) ?_
  simp only [AP]
  refine wpSeq_nil ?_
  refine (by assumption : ∀ (a : Act) (w : World), _ → _) _ _ ?_
  go_upto_region 7 with fail
  rename_i aK
  refine wp_region_seq ?_
  refine smv (.int .i64 (code : Int)) rfl rfl rfl ?_
  simp only [AP]
  refine sas (.slice none 0 0) rfl rfl rfl ?_
  simp only [AP]
  refine sas (.int .i64 (code : Int)) rfl rfl rfl ?_
  simp only [AP]
  refine wpSeq_nil ?_
  refine (by assumption : ∀ (a : Act) (w : World), _ → _) _ _ ?_
  go_wp2
  refine bodyPost_ret (results_tmp2 rfl _ _ _) rfl ?_
  have e : G = (code, []) := SG.out.symm.trans (if_pos z)
  subst e
  exact ⟨_, rfl, OwL.nil _ _, P.out.bel⟩
 have z0 : code = 0 := Decidable.not_not.1 z
 clear z
 subst z0
 replace SG := Lib.hid (SG.out.symm.trans (if_neg (fun e => e rfl)))
 have OK := OKF.out rfl
 obtain ⟨a, ha⟩ : ∃ a, lh - n = a := ⟨_, rfl⟩
 have AA := Lib.hid (show a + n = lh ∧ 9 ≤ a ∧ lh ≤ 40 ∧ Bytes hd ∧ 1 ≤ n ∧ n ≤ 4 ∧ lh - n = a by exact ⟨by omega, by omega, OK.2.1, OK.2.2.1, OK.2.2.2.1, OK.2.2.2.2, ha⟩)
 clear OK OKF ha n4
 go_upto_region 6 with fail
 rename_i aK
 refine wp_region_seq ?_
 refine smv (.int .i64 ((0 : Nat) : Int)) rfl rfl rfl ?_
 simp only [AP]
 refine svl (.bool false) (.inl ⟨by rfl, fun w' _ => by (go_simp; try omega)⟩) ?_
 simp only [AP]
 refine wpSeq_nil ?_
 refine (by assumption : ∀ (a : Act) (w : World), _ → _) _ _ ?_
 go_upto_region 8 with fail
 rename_i aK
 refine wp_region_seq ?_
 refine smv (.int .i64 (k : Int)) rfl rfl rfl ?_
 simp only [AP]
 refine wpSeq_wp rfl ?_
 unfold Oper.wp execOp
 have hmk := run_make8 k (by have := k3.out; omega) w5
 go_simp
 clear hmk
 refine sas (.slice (some ⟨w5.heap.size, 0, none⟩) k k) rfl rfl rfl ?_
 simp only [AP]
 refine wpSeq_nil ?_
 refine (by assumption : ∀ (a : Act) (w : World), _ → _) _ _ ?_
 have KF := Blk.new w5 5 (Iv .u8 (NI (List.replicate k 0)))
 have b6 := (Below.refl w5.heap.size w5).alloc (Nat.le_refl _) (.cells (Iv .u8 (NI (List.replicate k 0))) 5)
 generalize hW6 : World.alloc w5 _ = w6 at *
 clear hW6
 replace h3 := Lib.hid (h3.out.below b6)
 go_upto_region 9 with fail
 rename_i aK
 refine wp_region_seq ?_
 refine smv (.slice (some ⟨w5.heap.size, 0, none⟩) k k) rfl rfl rfl ?_
 simp only [AP]
 refine smv (.slice p3 k0 c3) rfl rfl rfl ?_
 simp only [AP]
 refine wpSeq_wp rfl (wp_copy_in _ _ rfl w5.heap.size 0 k k rfl (.slice p3 k0 c3) b (List.replicate k 0) 5 rfl h3.out KF (by rw [HKL.out]; exact k3.out.2.1) (by simp) ?_)
 intro w7 KF7 G7
 rw [HSP.out] at KF7
 have b7 := below_grown' b6 G7 (fun j e => by have := Option.some.inj e; omega) b6.size
 clear b6 KF G7 h3
 go_simp
 refine wpSeq_nil ?_
 refine (by assumption : ∀ (a : Act) (w : World), _ → _) _ _ ?_
 replace P := Lib.hid (P.out.step b7)
 have O5' := O5.out.below b7
 have Z5 := Lib.hid (show W.heap.size + 2 ≤ B0 ∧ B0 ≤ w7.heap.size by have := b7.size; have := HBB.out; omega)
 have S3 := SB.of_ba' (c := k) (BA.of_blk KF7) LC.out.1.symm (by rw [LC.out.1]; exact Nat.le_refl _)
 clear b7 KF7 HBB O5
 have bd := below_drew (Below.refl w7.heap.size w7)
 replace P := Lib.hid (P.out.step bd)
 replace O5 := Lib.hid (O5'.below bd)
 replace S3 := Lib.hid (S3.below bd)
 replace Z5 := Lib.hid (show W.heap.size + 2 ≤ B0 ∧ B0 ≤ w7.drew.heap.size by have := Z5.out; have := bd.size; omega)
 clear bd O5'
 obtain ⟨Sx, hS⟩ : ∃ S, sealL K (nonceN N pn) hd c = S := ⟨_, rfl⟩
 have lS : Sx.length = k + 16 := by rw [← hS, sealL_length, LC.out.1]
 have LL := Lib.hid (show lh ≤ 1000 ∧ k ≤ 1000 ∧ Sx.length = k + 16 by have := AA.out; have := k3.out; omega)
 have CS := Lib.hid (fun W h1 h2 => seal_c K (nonceN N pn) hd c Sx p5 (some ⟨w5.heap.size, 0, none⟩) lh k c5 k LN.out.1.1 (nonceN_length _ _) LN.out.2.1 (nonceN_bytes LN.out.2.2.1 pn) AA.out.2.2.2.1 LC.out.2 LL.out.1 LL.out.2.1 hS.symm W h1 h2)
 have HS0 := Lib.hid hS
 clear hS lS
 go_upto_region 10 with fail
 rename_i aK
 refine wp_region_S (S := KV W KC) (by kernel_rfl) ?_
 generalize w7.drew = w8 at *
 have hS := P.out
 refine wpAnyS_takeL 0 (v := .slice p5 lh c5) rfl (by kernel_rfl) (by kernel_rfl) (by kernel_rfl) (fun _ _ _ H => H) (yieldsIf_move rfl _ rfl (.slice p5 lh c5) rfl) hS ?_
 simp only [AP]
 refine wpAnyS_takeL 1 (v := .pointer (some ⟨W.heap.size, 0, none⟩)) rfl (by kernel_rfl) (by kernel_rfl) (by kernel_rfl) (fun _ _ _ H => H) (Or.inl ⟨by rfl, fun w' hw' => by (go_simp)⟩) hS ?_
 simp only [AP]
 refine wpAnyS_takeL 2 (v := .agg (Iv .u8 (NI K))) rfl (by kernel_rfl) (by kernel_rfl) (by kernel_rfl) (fun _ _ _ H => H) (show YieldsIf _ _ _ _ (.agg (Iv .u8 (NI K))) _ from yieldsIf_load_mid (S := KV W KC) rfl 27 _ rfl W.heap.size 0 rfl ((NI K).map (Value.int .u8)) _ (fun w' h => ky_key (show Blk w' W.heap.size 30 (Iv .u8 (NI (K ++ (N ++ Mk)))) by rw [HK.out]; exact h.ky)) Tryd.underlying27 rfl (by rw [info_ab]; simp [NI, LN.out.1.1])) hS ?_
 simp only [AP]
 refine wpAnyS_takeL 3 (v := .agg KC) rfl (by kernel_rfl) (by kernel_rfl) (by kernel_rfl) (fun _ _ _ H => H) (show YieldsIf _ _ _ _ (.agg KC) _ from yieldsIf_row_wanted (S := KV W KC) rfl 30 _ rfl W.heap.size rfl 30 _ _ (fun _ h => h.ky) Tryd.underlying30 rfl (info_keys KC KZ.out)) hS ?_
 simp only [AP]
 refine wpAnyS_takeL 4 (v := .int .u64 (pn : Int)) rfl (by kernel_rfl) (by kernel_rfl) (by kernel_rfl) (fun _ _ _ H => H) (yieldsIf_move rfl _ rfl (.int .u64 (pn : Int)) rfl) hS ?_
 simp only [AP]
 refine wpAnyS_takeL 6 (v := .slice p5 lh c5) rfl (by kernel_rfl) (by kernel_rfl) (by kernel_rfl) (fun _ _ _ H => H) (yieldsIf_move rfl _ rfl (.slice p5 lh c5) rfl) hS ?_
 simp only [AP]
 refine wpAnyS_takeL 7 (v := .slice (some ⟨w5.heap.size, 0, none⟩) k k) rfl (by kernel_rfl) (by kernel_rfl) (by kernel_rfl) (fun _ _ _ H => H) (yieldsIf_move rfl _ rfl (.slice (some ⟨w5.heap.size, 0, none⟩) k k) rfl) hS ?_
 simp only [AP]
 refine gstep 5 rfl rfl (by kernel_rfl) ?_
 unfold Oper.wp execOp
 go_simp
 refine (CNN.out w8).mono ?_
 rintro _ w9 ⟨rfl, b9⟩
 refine ⟨P.out.step b9, ?_⟩
 refine gstep 8 rfl rfl (by kernel_rfl) ?_
 unfold Oper.wp execOp
 go_simp
 refine (CS.out w9 (O5.out.below b9).sb (S3.out.below b9)).mono ?_
 rintro _ w10 ⟨v10, rfl, O10, b10⟩
 have b11 := b9.trans (b10.mono b9.size)
 refine ⟨P.out.step b11, ?_⟩
 replace P := Lib.hid (P.out.step b11)
 replace O5 := O5.out.below b11
 replace Z5 := Lib.hid (show W.heap.size + 2 ≤ B0 ∧ B0 ≤ w10.heap.size by have := Z5.out; have := b11.size; omega)
 have L5 := Lib.hid (fun j e => O5.lt j e)
 obtain ⟨v9, W9, hr9, O9, g9, _⟩ := append_sb B0 w10 24 (.slice p5 lh c5) v10 hd Sx O5 O10.sb (by have := LL.out; have := HL.out; omega) Z5.out.2
 have P9 := P.out.grow g9 (fun j e => by have := (L5.out j e).1; have := Z5.out; omega)
 clear b9 b10 b11 CS S3 O10 O5 CNN hS
 refine gstep 9 rfl rfl (by kernel_rfl) (wp_append_run _ _ _ _ rfl _ _ rfl rfl v9 W9 hr9 ⟨P9, ?_⟩)
 simp only [AP]
 have hS := P9
 clear hr9
 refine wpAnyS_takeL 10 (v := v9) rfl (by kernel_rfl) (by kernel_rfl) (by kernel_rfl) (fun _ _ _ H => H) (yieldsIf_assign rfl _ rfl (v9) rfl) hS ?_
 simp only [AP]
 refine wpAnyS_done (by kernel_rfl) ?_ _
 refine (by assumption : ∀ (a : Act) (w : World), _ → _) _ _ ?_
 clear aK hS
 replace P := Lib.hid P9
 clear P9 g9
 obtain ⟨X, hX⟩ : ∃ X, hd ++ Sx = X := ⟨_, rfl⟩
 rw [hX] at O9
 obtain ⟨lx, hlx⟩ : ∃ lx, X.length = lx := ⟨_, rfl⟩
 have lX : lx = lh + (k + 16) := by rw [← hlx, ← hX, List.length_append, HL.out, LL.out.2.2]
 have bX : Bytes X := by rw [← hX, ← HS0.out]; exact AA.out.2.2.2.1.append (sealL_bytes LN.out.2.1 (nonceN_bytes LN.out.2.2.1 pn) LC.out.2 (by rw [LC.out.1]; have := k3.out; omega))
 rcases O9.row with ⟨_, e⟩ | ⟨g, cx, hv9, lg, lc, _, A9, _⟩
 ·
  have : X.length = 0 := by rw [e]; rfl
  have := AA.out
  omega
 rw [hlx] at hv9 lc
 subst hv9
 have LX := Lib.hid (show a + 20 ≤ lx ∧ lx = lh + (k + 16) ∧ lx ≤ cx ∧ B0 ≤ g ∧ g < W9.heap.size ∧ X.length = lx by have := AA.out; have := k3.out; exact ⟨by omega, lX, lc, lg, A9.blk, hlx⟩)
 replace bX := Lib.hid bX
 obtain ⟨M, hM⟩ : ∃ M, maskN Mk a X = M := ⟨_, rfl⟩
 have hM2 : encL boxL Mk (((X.drop a).drop 4).take 16) = M := by
  rw [← hM, List.drop_drop]
  rfl
 have MC := fun (W : World) (h : SB W (.slice (some ⟨g, 0 + a, none⟩) (lx - a) (cx - a)) (X.drop a)) => mask_c K N Mk LN.out.1.1 LN.out.1.2.1 LN.out.1.2.2 LN.out.2.2.2 (X.drop a) (bX.out.drop a) (some ⟨g, 0 + a, none⟩) (lx - a) (cx - a) (by have := LX.out; omega) W h
 rw [hM2, HK.out, Nat.zero_add] at MC
 replace MC := Lib.hid MC
 have HM := Lib.hid hM
 have M16 : M.length = 16 := by rw [← hM2]; exact encL_length _ _
 have M8 : Bytes M := by rw [← hM2]; exact encL_bytes LN.out.2.2.2 (((bX.out.drop a).drop 4).take 16)
 replace M8 := Lib.hid M8
 replace M16 := Lib.hid M16
 have HX := Lib.hid hX
 have f0 : IntKind.i64.wrap ((lh : Int) - (n : Int)) = (a : Int) := by rw [IntKind.wrap_i64]; have := AA.out; omega
 have bitsE := bitG_is (X.getD 0 0)
 obtain ⟨bits, hbits⟩ : ∃ bits, bitG (X.getD 0 0) = bits := ⟨_, rfl⟩
 rw [hbits] at bitsE
 have HBS := Lib.hid (show (if sp = 2 then 31 else 15) = bits by
  rw [← hbits, ← hX]
  exact (first_bits sp to fr pn n (k + 16) hd Sx AA.out.2.2.2.2.1 AA.out.2.2.2.2.2.1 SGH.out (by rw [HL.out]; have := AA.out; omega)).symm)
 have et := tail_eq g 0 a lx cx (by have := LX.out; omega)
 rw [Nat.zero_add] at et
 have S5 := Lib.hid (show SB W9 (.slice (some ⟨g, a, none⟩) (lx - a) (cx - a)) (X.drop a) by
  rw [← et]
  exact O9.sb.tail a (by have := LX.out; omega))
 have lA := Lib.hid (show a ≤ lx ∧ lx ≤ cx ∧ a < cx by have := LX.out; omega)
 clear hX hlx lX lg lc A9 hM hM2
 go_upto_region 11 with fail
 rename_i aK
 refine wp_region_seq ?_
 refine smv (.slice p5 lh c5) rfl rfl rfl ?_
 simp only [AP]
 refine svl (.int .i64 (lh : Int)) (.inl ⟨by rfl, fun w' _ => by go_simp⟩) ?_
 simp only [AP]
 refine smv (.int .i64 (n : Int)) rfl rfl rfl ?_
 simp only [AP]
 refine svl (.int .i64 (a : Int)) (.inl ⟨by rfl, fun w' _ => by go_simp⟩) ?_
 simp only [AP]
 refine sas (.int .i64 (a : Int)) rfl rfl rfl ?_
 simp only [AP]
 refine wpSeq_nil ?_
 refine (by assumption : ∀ (a : Act) (w : World), _ → _) _ _ ?_
 clear f0
 go_upto_region 12 with fail
 rename_i KK aK
 have AK : ∀ (gm : Nat) (w' : World), W9.heap.size ≤ gm → Blk w' gm 27 (Iv .u8 (NI M)) → Below W9.heap.size W9 w' → KK { tmps := #[.agg KC, .agg HC, .int .u64 (pn : Int), .int .u64 (acked : Int), .slice p3 k0 c3, .pointer (some ⟨W.heap.size, 0, none⟩), .pointer (some ⟨W.heap.size + 1, 0, none⟩), undef, undef, undef, .slice none 0 0, .int .i64 0, .int .i64 (n : Int), .int .i64 (k : Int), .slice p5 lh c5, .int .i64 ((0 : Nat) : Int), .slice (some ⟨w5.heap.size, 0, none⟩) k k, .slice (some ⟨g, 0, none⟩) lx cx, .int .i64 (a : Int), .pointer (some ⟨gm, 0, none⟩), .int .u64 (pn : Int), .bool false, .bool false, .int .u64 (acked : Int), .int .u64 (pn : Int), .bool false, .bool false, .int .u64 (pn : Int), .int .u64 (acked : Int), .int .i64 (n : Int), .slice p3 k0 c3, .int .i64 (k0 : Int), .int .i64 (n : Int), .int .i64 (r : Int), .int .i64 (k : Int), .tuple #[.slice p5 lh c5, .int .i64 ((0 : Nat) : Int)], .agg #[.int .i64 sp, .slice p1 m c1, .slice p2 n2 c2], .int .u64 (pn : Int), .int .i64 (n : Int), .int .i64 (k : Int), .int .i64 ((k + 16 : Nat) : Int), .tuple #[.slice p5 lh c5, .int .i64 ((0 : Nat) : Int)], .slice p5 lh c5, .int .i64 ((0 : Nat) : Int), .int .i64 ((0 : Nat) : Int), .bool false, undef, .int .i64 (k : Int), .slice (some ⟨w5.heap.size, 0, none⟩) k k, .slice (some ⟨w5.heap.size, 0, none⟩) k k, .slice p3 k0 c3, goInt b.length, .slice p5 lh c5, .pointer (some ⟨W.heap.size, 0, none⟩), .agg (Iv .u8 (NI K)), .agg KC, .int .u64 (pn : Int), .agg (Iv .u8 (NI (nonceN N pn))), .slice p5 lh c5, .slice (some ⟨w5.heap.size, 0, none⟩) k k, v10, .slice (some ⟨g, 0, none⟩) lx cx, .slice p5 lh c5, .int .i64 (lh : Int), .int .i64 (n : Int), .int .i64 (a : Int), .agg KC, .slice (some ⟨g, 0, none⟩) lx cx, .int .i64 (a : Int), .slice (some ⟨g, a, none⟩) (lx - a) (cx - a), .agg (Iv .u8 (NI M)), undef, undef, undef, undef, undef, undef, undef, undef, undef, undef, undef, undef, undef, undef, undef, undef, undef, undef, undef, undef, undef], defers := [] } w' := by
  intro gm w12 lgm MB b12
  refine aK _ _ ?_
  clear aK MC S5 et
  replace O9 := O9.below b12
  have b1 := P.out.bel.trans (b12.mono P.out.bel.size)
  have NG := Lib.hid (show gm ≠ g ∧ W.heap.size ≤ g by have := LX.out; have := Z5.out; omega)
  clear b12 lgm P
  have bd := below_drew (Below.refl w12.heap.size w12)
  replace O9 := O9.below bd
  replace MB := MB.below' bd
  replace b1 := b1.trans (bd.mono b1.size)
  clear bd
  obtain ⟨x0, hx0⟩ : ∃ x0, X.getD 0 0 = x0 := ⟨_, rfl⟩
  obtain ⟨m0, hm0⟩ : ∃ m0, M.getD 0 0 = m0 := ⟨_, rfl⟩
  have x8 : x0 < 256 := by rw [← hx0]; exact getD_bytes bX.out 0
  have m8 : m0 < 256 := by rw [← hm0]; exact getD_bytes M8.out 0
  have f1 : Go.bits BinOp.and IntKind.u8 (m0 : Int) (bits : Int) = ((m0 &&& bits : Nat) : Int) := and_low m0 bits m8 bitsE
  obtain ⟨f, hf⟩ : ∃ f, x0 ^^^ (m0 &&& bits) = f := ⟨_, rfl⟩
  have f2 : Go.bits BinOp.xor IntKind.u8 (x0 : Int) ((m0 &&& bits : Nat) : Int) = (f : Int) := by rw [xor_u8 _ _ x8 (Nat.lt_of_le_of_lt Nat.and_le_left m8), hf]
  have HZ := hidN_zero M a bits X (by have := LX.out; omega)
  have HC := fun (W : World) => hidden_c x0 x8 W
  rw [← hx0, hbits, hx0] at HC
  replace HC := Lib.hid HC
  rw [hx0, hm0, hf] at HZ
  have S2 := Lib.hid hx0
  have S3 := Lib.hid hm0
  have S4 := Lib.hid HZ
  clear hx0 hm0 HZ x8 m8 hf hbits
  go_upto_region 13 with fail
  rename_i aK
  refine wp_region_Z (S := fun w' => Below w12.drew.heap.size w12.drew w') 12 (by kernel_rfl) ?_
  generalize w12.drew = w5 at *
  have hS := Below.refl w5.heap.size w5
  have C0 := Lib.hid (fun (w' : World) (h : Below w5.heap.size w5 w') => show w'.cell? ⟨g, 0, none⟩ = some (.int .u8 (x0 : Int)) by have := ((O9.below h).at_cell 0 (by rw [LX.out.2.2.2.2.2]; have := LX.out; omega)).1; rw [S2.out] at this; exact this)
  have C1 := Lib.hid (fun (w' : World) (h : Below w5.heap.size w5 w') => cell_list (MB.below' h) 0 m0 (by rw [M16.out]; omega) S3.out)
  have lx0 : 0 < lx := by have := LX.out; omega
  refine wpAnyZ_takeL 0 (v := .slice (some ⟨g, 0, none⟩) lx cx) rfl (by kernel_rfl) (by kernel_rfl) (by kernel_rfl) (by kernel_rfl) (by kernel_rfl) (fun _ _ _ H => H) (yieldsIf_move rfl _ rfl (.slice (some ⟨g, 0, none⟩) lx cx) rfl) hS ?_
  simp only [AP]
  refine wpAnyZ_takeL 1 (v := .pointer (some ⟨g, 0, none⟩)) rfl (by kernel_rfl) (by kernel_rfl) (by kernel_rfl) (by kernel_rfl) (by kernel_rfl) (fun _ _ _ H => H) (Or.inl ⟨by rfl, fun w' hw' => by (go_simp; try omega)⟩) hS ?_
  simp only [AP]
  refine wpAnyZ_takeL 2 (v := .int .u8 (x0 : Int)) rfl (by kernel_rfl) (by kernel_rfl) (by kernel_rfl) (by kernel_rfl) (by kernel_rfl) (fun _ _ _ H => H) (Or.inl ⟨by rfl, fun w' hw' => by (have cc := C0.out w' hw'; go_simp)⟩) hS ?_
  simp only [AP]
  refine wpAnyZ_takeL 3 (v := .pointer (some ⟨gm, 0, none⟩)) rfl (by kernel_rfl) (by kernel_rfl) (by kernel_rfl) (by kernel_rfl) (by kernel_rfl) (fun _ _ _ H => H) (Or.inl ⟨by rfl, fun w' hw' => by (go_simp; try omega)⟩) hS ?_
  simp only [AP]
  refine wpAnyZ_takeL 4 (v := .int .u8 (m0 : Int)) rfl (by kernel_rfl) (by kernel_rfl) (by kernel_rfl) (by kernel_rfl) (by kernel_rfl) (fun _ _ _ H => H) (Or.inl ⟨by rfl, fun w' hw' => by (have cc := C1.out w' hw'; go_simp)⟩) hS ?_
  simp only [AP]
  refine wpAnyZ_takeL 5 (v := .slice (some ⟨g, 0, none⟩) lx cx) rfl (by kernel_rfl) (by kernel_rfl) (by kernel_rfl) (by kernel_rfl) (by kernel_rfl) (fun _ _ _ H => H) (yieldsIf_move rfl _ rfl (.slice (some ⟨g, 0, none⟩) lx cx) rfl) hS ?_
  simp only [AP]
  refine wpAnyZ_takeL 6 (v := .pointer (some ⟨g, 0, none⟩)) rfl (by kernel_rfl) (by kernel_rfl) (by kernel_rfl) (by kernel_rfl) (by kernel_rfl) (fun _ _ _ H => H) (Or.inl ⟨by rfl, fun w' hw' => by (go_simp; try omega)⟩) hS ?_
  simp only [AP]
  refine wpAnyZ_takeL 7 (v := .int .u8 (x0 : Int)) rfl (by kernel_rfl) (by kernel_rfl) (by kernel_rfl) (by kernel_rfl) (by kernel_rfl) (fun _ _ _ H => H) (Or.inl ⟨by rfl, fun w' hw' => by (have cc := C0.out w' hw'; go_simp)⟩) hS ?_
  simp only [AP]
  refine hzstep 8 rfl (by kernel_rfl) rfl ?_
  unfold Oper.wp execOp
  go_simp
  refine (HC.out w5).mono ?_
  rintro _ w6 ⟨rfl, b6⟩
  refine ⟨b6, ?_⟩
  have hS6 := b6
  refine wpAnyZ_takeL 9 (v := .int .u8 ((m0 &&& bits : Nat) : Int)) rfl (by kernel_rfl) (by kernel_rfl) (by kernel_rfl) (by kernel_rfl) (by kernel_rfl) (fun _ _ _ H => H) (Or.inl ⟨by rfl, fun w' hw' => by go_simp⟩) hS6 ?_
  simp only [AP]
  refine wpAnyZ_takeL 10 (v := .int .u8 (f : Int)) rfl (by kernel_rfl) (by kernel_rfl) (by kernel_rfl) (by kernel_rfl) (by kernel_rfl) (fun _ _ _ H => H) (Or.inl ⟨by rfl, fun w' hw' => by go_simp⟩) hS6 ?_
  simp only [AP]
  refine wpAnyZ_takeL 11 (v := .pointer (some ⟨g, 0, none⟩)) rfl (by kernel_rfl) (by kernel_rfl) (by kernel_rfl) (by kernel_rfl) (by kernel_rfl) (fun _ _ _ H => H) (Or.inl ⟨by rfl, fun w' hw' => by (go_simp; try omega)⟩) hS6 ?_
  simp only [AP]
  have O6 := O9.below b6
  have MB6 := MB.below' b6
  have cx0 := C0.out w6 b6
  have fx0 := (O6.at_cell 0 (by rw [LX.out.2.2.2.2.2]; exact lx0)).2
  have b7 := b1.trans (b6.mono b1.size)
  clear C0 C1 O9 MB b1 b6 hS hS6 HC
  refine hzstep 12 rfl (by kernel_rfl) rfl ?_
  unfold Oper.wp execOp
  go_simp
  refine wpAnyZ_done (by kernel_rfl) ?_ _
  refine (by assumption : ∀ (a : Act) (w : World), _ → _) _ _ ?_
  have O7 := O6.put 0 f
  rw [← S4.out] at O7
  have MB7 := MB6.far (p := ⟨g, 0, none⟩) NG.out.1 (.int .u8 (f : Int))
  have b8 := b7.setCell (p := ⟨g, 0, none⟩) (by show W.heap.size ≤ g; exact NG.out.2) (.int .u8 (f : Int))
  clear O6 MB6 b7 cx0 fx0 aK f1 f2 lx0
  generalize World.setCell w6 _ _ = w7 at *
  have bd := below_drew (Below.refl w7.heap.size w7)
  replace O7 := O7.below bd
  replace MB7 := MB7.below' bd
  replace b8 := b8.trans (bd.mono b8.size)
  clear bd
  have e5 : IntKind.i64.wrap ((a : Int) + (n : Int)) = (lh : Int) := by rw [IntKind.wrap_i64]; have := AA.out; omega
  have l1 : (a : Int) ≤ lh ∧ (lh : Int) ≤ cx ∧ ¬ cx = a := by have := LX.out; have := AA.out; omega
  have l2 : lh - a = n := by have := AA.out; omega
  go_upto_region 14 with fail
  rename_i aK
  refine wp_region_S (S := fun _ => True) (by kernel_rfl) ?_
  generalize w7.drew = w8 at *
  have hS := trivial
  refine wpAnyS_takeL 0 (v := .slice (some ⟨g, 0, none⟩) lx cx) rfl (by kernel_rfl) (by kernel_rfl) (by kernel_rfl) (fun _ _ _ H => H) (yieldsIf_move rfl _ rfl (.slice (some ⟨g, 0, none⟩) lx cx) rfl) hS ?_
  simp only [AP]
  refine wpAnyS_takeL 1 (v := .int .i64 (a : Int)) rfl (by kernel_rfl) (by kernel_rfl) (by kernel_rfl) (fun _ _ _ H => H) (yieldsIf_move rfl _ rfl (.int .i64 (a : Int)) rfl) hS ?_
  simp only [AP]
  refine wpAnyS_takeL 2 (v := .int .i64 (a : Int)) rfl (by kernel_rfl) (by kernel_rfl) (by kernel_rfl) (fun _ _ _ H => H) (yieldsIf_move rfl _ rfl (.int .i64 (a : Int)) rfl) hS ?_
  simp only [AP]
  refine wpAnyS_takeL 3 (v := .int .i64 (n : Int)) rfl (by kernel_rfl) (by kernel_rfl) (by kernel_rfl) (fun _ _ _ H => H) (yieldsIf_move rfl _ rfl (.int .i64 (n : Int)) rfl) hS ?_
  simp only [AP]
  refine wpAnyS_takeL 4 (v := .int .i64 (lh : Int)) rfl (by kernel_rfl) (by kernel_rfl) (by kernel_rfl) (fun _ _ _ H => H) (Or.inl ⟨by rfl, fun w' hw' => by go_simp⟩) hS ?_
  simp only [AP]
  refine wpAnyS_takeL 5 (v := .slice (some ⟨g, a, none⟩) n (cx - a)) rfl (by kernel_rfl) (by kernel_rfl) (by kernel_rfl) (fun _ _ _ H => H) (Or.inl ⟨by rfl, fun w' hw' => by (obtain ⟨l3, l4, l5⟩ := l1; go_simp)⟩) hS ?_
  simp only [AP]
  refine wpAnyS_takeL 6 (v := .slice (some ⟨gm, 1, none⟩) 15 15) rfl (by kernel_rfl) (by kernel_rfl) (by kernel_rfl) (fun _ _ _ H => H) (Or.inl ⟨by rfl, fun w' hw' => by (go_simp)⟩) hS ?_
  simp only [AP]
  refine gstep 7 rfl rfl (by kernel_rfl) ?_
  unfold Oper.wp execOp
  go_simp
  refine (join_c B0 M X a n lx cx g gm bits 27 (by have := AA.out; omega) (by have := AA.out; have := LX.out; omega) AA.out.2.2.2.2.2.1 LX.out.2.2.2.2.2 (by have := AA.out; have := LX.out; have := k3.out; omega) M16.out bX.out M8.out NG.out.1 w8 O7 MB7).mono ?_
  rintro _ w9 ⟨⟨vj, rfl⟩, O9, G9⟩
  have b9 := below_grown' b8 G9 (fun j e => by have := Option.some.inj e; have := NG.out; omega) b8.size
  clear O7 MB7 b8 G9 hS l1 l2 e5
  refine wpAnyS_done (by kernel_rfl) ?_ _
  refine (by assumption : ∀ (a : Act) (w : World), _ → _) _ _ ?_
  clear aK
  go_upto_region 15 with fail
  rename_i aK
  refine wp_region_seq ?_
  refine smv (.slice (some ⟨g, 0, none⟩) lx cx) rfl rfl rfl ?_
  simp only [AP]
  refine sas (.slice (some ⟨g, 0, none⟩) lx cx) rfl rfl rfl ?_
  simp only [AP]
  refine sas (.int .i64 0) rfl rfl rfl ?_
  simp only [AP]
  refine wpSeq_nil ?_
  refine (by assumption : ∀ (a : Act) (w : World), _ → _) _ _ ?_
  go_wp2
  refine bodyPost_ret (results_tmp2 rfl _ _ _) rfl ?_
  have e : G = (0, hidN M a n bits X) := by
   have s := SG.out
   rw [HL.out, AA.out.2.2.2.2.2.2, HS0.out, HX.out, HM.out, HBS.out] at s
   exact s
  subst e
  exact ⟨_, rfl, O9.mono (by have := Z5.out; omega), b9⟩
 clear aK
 have bd := below_drew (Below.refl W9.heap.size W9)
 refine wp_region_Z (S := fun w' => Below W9.drew.heap.size W9.drew w') 6 (by kernel_rfl) ?_
 have K0 := Lib.hid ((P.out.step bd).ky)
 replace S5 := Lib.hid (S5.out.below bd)
 replace bd := Lib.hid bd
 clear O9 P
 generalize W9.drew = w2 at *
 have hS := Below.refl w2.heap.size w2
 have acx := lA.out.2.2
 refine wpAnyZ_takeL 0 (v := .agg KC) rfl (by kernel_rfl) (by kernel_rfl) (by kernel_rfl) (by kernel_rfl) (by kernel_rfl) (fun _ _ _ H => H) (show YieldsIf _ _ _ _ (.agg KC) _ from yieldsIf_row_wanted (S := fun w' => Below w2.heap.size w2 w') rfl 30 _ rfl W.heap.size rfl 30 _ _ (fun _ h => K0.out.below' h) Tryd.underlying30 rfl (info_keys KC KZ.out)) hS ?_
 simp only [AP]
 refine wpAnyZ_takeL 1 (v := .slice (some ⟨g, 0, none⟩) lx cx) rfl (by kernel_rfl) (by kernel_rfl) (by kernel_rfl) (by kernel_rfl) (by kernel_rfl) (fun _ _ _ H => H) (yieldsIf_move rfl _ rfl (.slice (some ⟨g, 0, none⟩) lx cx) rfl) hS ?_
 simp only [AP]
 refine wpAnyZ_takeL 2 (v := .int .i64 (a : Int)) rfl (by kernel_rfl) (by kernel_rfl) (by kernel_rfl) (by kernel_rfl) (by kernel_rfl) (fun _ _ _ H => H) (yieldsIf_move rfl _ rfl (.int .i64 (a : Int)) rfl) hS ?_
 simp only [AP]
 refine wpAnyZ_takeL 3 (v := .slice (some ⟨g, a, none⟩) (lx - a) (cx - a)) rfl (by kernel_rfl) (by kernel_rfl) (by kernel_rfl) (by kernel_rfl) (by kernel_rfl) (fun _ _ _ H => H) (et ▸ yieldsIf_tail rfl _ _ rfl (some ⟨g, 0, none⟩) lx cx a rfl rfl lA.out.1 lA.out.2.1) hS ?_
 simp only [AP]
 clear hS et acx
 refine hzsteps 4 5 rfl rfl (by kernel_rfl) rfl rfl ?_ ?_
 ·
  unfold Oper.wp execOp
  go_simp
  refine (MC.out w2 S5.out).mono ?_
  rintro _ w3 ⟨rfl, b3⟩
  refine ⟨b3, ?_⟩
  refine hzstep 5 rfl (by kernel_rfl) rfl ?_
  unfold Oper.wp execOp
  go_simp
  refine ⟨b3.alloc b3.size _, ?_⟩
  refine hzstep 6 rfl (by kernel_rfl) rfl (wp_store_row 27 _ _ rfl w3.heap.size (Iv .u8 (NI M)) rfl rfl _ _ (Blk.new _ _ _) (by rw [info_ab, Iv_size, NI_length, M16.out]) (by rw [Iv_size, NI_length, M16.out]; rfl) (u8s_one _) ⟨fun e => Bool.noConfusion ((e.symm.trans (show _ = true from rfl) : false = true)), ?_⟩)
  simp only [Act.put]
  refine wpAnyZ_done (by kernel_rfl) ?_ _
  exact AK w3.heap.size _ (Nat.le_trans bd.out.size b3.size) (one_row w3 27 _ (Iv .u8 (NI M))).1 (bd.out.trans ((b3.trans ((one_row w3 27 _ (Iv .u8 (NI M))).2.mono b3.size)).mono bd.out.size))
 ·
  unfold Oper.wp execOp
  go_simp
  generalize hZ : World.alloc w2 _ = w3
  obtain ⟨Z, hz, K3, b3⟩ : ∃ Z : Array Value, Z.size = 16 ∧ Blk w3 w2.heap.size 27 Z ∧ Below w2.heap.size w2 w3 := by
   rw [← hZ]
   exact ⟨_, rfl, Blk.new _ _ _, (Below.refl w2.heap.size w2).alloc (Nat.le_refl _) _⟩
  clear hZ
  refine ⟨b3, ?_⟩
  refine hzstep 4 rfl (by kernel_rfl) rfl ?_
  unfold Oper.wp execOp
  go_simp
  refine (MC.out w3 (S5.out.below b3)).mono ?_
  rintro _ w4 ⟨rfl, b4⟩
  have b5 := b3.trans (b4.mono b3.size)
  refine ⟨b5, ?_⟩
  have K4 := K3.below' b4
  refine hzstep 6 rfl (by kernel_rfl) rfl (wp_store_row 27 _ _ rfl w2.heap.size (Iv .u8 (NI M)) rfl rfl _ _ K4 (by rw [info_ab, Iv_size, NI_length, M16.out]) (by rw [Iv_size, NI_length, M16.out]; exact hz) (u8s_one _) ⟨fun e => Bool.noConfusion ((e.symm.trans (show _ = true from rfl) : false = true)), ?_⟩)
  simp only [Act.put]
  refine wpAnyZ_done (by kernel_rfl) ?_ _
  exact AK w2.heap.size _ bd.out.size (K4.row _) (bd.out.trans ((below_setRow b5 (Nat.le_refl _) _).mono bd.out.size))
theorem gseal_c : GSealC := fun K N Mk sp to fr pn acked b vt vf vb lK lN lM bK bN bM ws bt bf ht hf hp ha bb lb W h1 h2 h3 => gseal_w K N Mk lK lN lM bK bN bM sp ws to fr pn acked b vt vf vb W ht hf bt bf hp ha bb lb h1 h2 h3 _ rfl
end Go.Proofs.YtpihgljdbpnehaaDoor
