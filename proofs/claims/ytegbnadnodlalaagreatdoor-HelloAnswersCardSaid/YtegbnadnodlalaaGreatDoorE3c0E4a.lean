/- The program's Vouch and Vouched (printed by gen14/ee.py). The law's Awake: a message, and a certificate that is vouched for (printed by gen14/ef.py). The reference's Message; law HelloMessages by contract (printed by gen14/eg.py). -/
import Derived.Test.YtegbnadnodlalaaGreatDoorE3b
import Derived.Test.YtegbnadnodlalaaGreatDoorGZh0GTq
namespace Go.Proofs.YtegbnadnodlalaaGreatDoor
open Go.RowKit
open Ed
/-! From bytes here to bytes there. -/
theorem h5_ba {w : World} {g o : Nat} {l : List Nat} (h : BA w g o l) : H5.BA w g o l := ⟨h.cell, h.blk⟩
theorem h5_sb {w : World} {v : Value} {l : List Nat} (h : SB w v l) : H5.SB w v l := by
 obtain ⟨p, c, e, hc, h0 | ⟨g, o, e2, A⟩⟩ := h
 · exact ⟨p, c, e, hc, Or.inl h0⟩
 · exact ⟨p, c, e, hc, Or.inr ⟨g, o, e2, h5_ba A⟩⟩
theorem ni_kb (n : Nat) : NI (kb n) = keyOf n := NI_kb n
theorem ni_sg (a b : Nat) : NI (kb a ++ kb b) = Sg a b := by
 rw [show NI (kb a ++ kb b) = NI (kb a) ++ NI (kb b) by simp [NI], ni_kb, ni_kb]
 rfl
theorem kb_by (n : Nat) : Bytes (kb n) := kb_bytes n
theorem sgnL_bytes (t : ByteArray) {k : List Nat} (bk : Bytes k) : Bytes (sgnL t k) := purL_bytes.append (bk.append (bL_bytes t))
theorem sgnL_length (t : ByteArray) {k : List Nat} (lk : k.length = 32) : (sgnL t k).length = 42 + t.size := by
 unfold sgnL
 rw [List.length_append, List.length_append, bL_length, lk]
 show 10 + _ = _
 omega
theorem cert_load_sig {ops : Array Oper} {S : World → Prop} {o : Oper} {a : Act} (hw : Region.wanted o (yielded ops a.tmps) = true) (x : Operand) (ho : o.op = .load 48 x) (g : Nat) (t : ByteArray) (k s : List Nat) (hk : k.length = 32) (hs : s.length = 64) (hx : a.eval x = .pointer (some ⟨g, 33, none⟩)) (hS : ∀ w, S w → Blk w g 50 (cerV t k s)) :
  YieldsIf Tryz.prog ops S o (.agg (Iv .u8 (NI s))) a := by
 rw [vals_iv]
 exact yieldsIf_load_mid hw 48 x ho g 33 hx (vals s) _ (fun w h => cert_sig hk (hS w h)) Tryz.underlying48 rfl (by rw [vals_length, hs]; kernel_rfl)
structure SW (cu sq : Nat → Nat) (w : World) : Prop where
 T : H5.Tab w cu
 Q : H5.Sq w sq
 X : Rng w 1 (Iv .u8 (keyOf bxN))
 Y : Rng w 2 (Iv .u8 (keyOf byN))
 D : Rng w 3 (Iv .u8 (keyOf dN))
theorem SW.below {cu sq : Nat → Nat} {w w' : World} (h : SW cu sq w) (b : Below w.heap.size w w') : SW cu sq w' := ⟨h.T.below b, h.Q.below b, h.X.below b, h.Y.below b, h.D.below b⟩
set_option maxHeartbeats 8000000 in
set_option maxRecDepth 100000 in
theorem vouched_c (cu sq : Nat → Nat) (n : Nat) (t : ByteArray) (k : List Nat) (lk : k.length = 32) (bk : Bytes k) (lt : t.size ≤ 1000) (W : World) (HW : SW cu sq W) :
  Calls Tryz.prog 14 #[Key (keyOf (pubN cu sq n)), .agg (cerV t k (kb (firN cu sq n (sgnL t k)) ++ kb (secN cu sq n (sgnL t k))))] W fun e w' => e = .returned (.bool true) ∧ Below W.heap.size W w' := by
 have ll : (sgnL t k).length < 1152921504606846976 := by rw [sgnL_length t lk]; omega
 have bl := sgnL_bytes t bk
 have VC := fun (bv : Value) (w : World) (h : SW cu sq w) (hb : SB w bv (sgnL t k)) => verify_n cu sq bv (sgnL t k) bl ll (pubN cu sq n) (firN cu sq n (sgnL t k)) (secN cu sq n (sgnL t k)) (times ok (numN cu sq n) bb) rfl (firN_lt _ _ _ _) (secN_lt _ _ _ _) true (decide_eq_true ((back_math cu sq n (sgnL t k) _ (secN_lt _ _ _ _)).2 rfl)) w h.T h.Q (h5_sb hb) h.X h.Y h.D
 have SC := Lib.hid (fun (s : List Nat) (ls : s.length = 64) (w : World) => signed_c t k s lk ls lt w)
 have ls : (kb (firN cu sq n (sgnL t k)) ++ kb (secN cu sq n (sgnL t k))).length = 64 := by rw [List.length_append, kb_length, kb_length]
 have es := ni_sg (firN cu sq n (sgnL t k)) (secN cu sq n (sgnL t k))
 rw [← es] at VC
 generalize kb (firN cu sq n (sgnL t k)) ++ kb (secN cu sq n (sgnL t k)) = s at *
 replace VC := Lib.hid VC
 have LS := Lib.hid ls
 have LK := Lib.hid lk
 have HW := Lib.hid HW
 generalize pubN cu sq n = pk at *
 have CZ := info_cerV t lk ls
 have SC := Lib.hid (fun (w : World) => SC.out s ls w)
 have KL := Lib.hid (fun (w : World) (g : Nat) (h : Blk w g 50 (cerV t k s)) => h)
 clear es bl ll bk lt lk ls
 show Calls Tryz.prog 14 #[.agg (Iv .u8 (keyOf pk)), .agg (cerV t k s)] W _
 go_enter Tryz.func14, Tryz.ntmps14
 go_upto_region 0 with fail
 rename_i aK
 refine wp_region_seq ?_
 refine wpSeq_wp rfl ?_
 unfold Oper.wp execOp
 go_simp
 refine wpSeq_wp rfl ?_
 unfold Oper.wp execOp
 go_simp
 refine sas (.bool false) rfl rfl rfl ?_
 simp only [AP]
 refine wpSeq_nil ?_
 refine aK _ _ ?_
 clear aK
 have b0 := ((Below.refl W.heap.size W).alloc (Nat.le_refl _) (.cells (Iv .u8 (keyOf pk)) 23)).alloc (by simp) (.cells (cerV t k s) 50)
 have K0 := (Blk.new W 23 (Iv .u8 (keyOf pk))).alloc (.cells (cerV t k s) 50)
 have K1 : Blk ((W.alloc (.cells (Iv .u8 (keyOf pk)) 23)).alloc (.cells (cerV t k s) 50)) (W.heap.size + 1) 50 (cerV t k s) := Blk.new' (by simp) _ _
 generalize World.alloc (World.alloc W _) _ = w1 at *
 have bd := below_drew (Below.refl w1.heap.size w1)
 replace K0 := K0.below' bd
 replace K1 := K1.below' bd
 replace b0 := b0.trans (bd.mono b0.size)
 clear bd
 go_upto_region 1 with fail
 rename_i aK
 refine wp_region_S (S := fun w' => Blk w' W.heap.size 23 (Iv .u8 (keyOf pk)) ∧ Blk w' (W.heap.size + 1) 50 (cerV t k s)) (by kernel_rfl) ?_
 generalize w1.drew = w2 at *
 have hS := And.intro K0 K1
 refine wpAnyS_takeL 0 (v := .agg (Iv .u8 (keyOf pk))) rfl (by kernel_rfl) (by kernel_rfl) (by kernel_rfl) (fun _ _ _ H => H) (show YieldsIf _ _ _ _ (.agg (Iv .u8 (keyOf pk))) _ from yieldsIf_row_wanted (S := fun w' => Blk w' W.heap.size 23 (Iv .u8 (keyOf pk)) ∧ Blk w' (W.heap.size + 1) 50 (cerV t k s)) rfl 23 _ rfl W.heap.size rfl 23 _ _ (fun _ h => h.1) Tryz.underlying23 rfl (info_key _ (keyOf_length _))) hS ?_
 simp only [AP]
 refine wpAnyS_takeL 1 (v := .agg (cerV t k s)) rfl (by kernel_rfl) (by kernel_rfl) (by kernel_rfl) (fun _ _ _ H => H) (show YieldsIf _ _ _ _ (.agg (cerV t k s)) _ from yieldsIf_row_wanted (S := fun w' => Blk w' W.heap.size 23 (Iv .u8 (keyOf pk)) ∧ Blk w' (W.heap.size + 1) 50 (cerV t k s)) rfl 50 _ rfl (W.heap.size + 1) rfl 50 _ _ (fun _ h => h.2) Tryz.underlying50 rfl CZ) hS ?_
 simp only [AP]
 refine wpAnyS_takeL 3 (v := .pointer (some ⟨W.heap.size + 1, 33, none⟩)) rfl (by kernel_rfl) (by kernel_rfl) (by kernel_rfl) (fun _ _ _ H => H) (Or.inl ⟨by rfl, fun w' hw' => by (go_simp)⟩) hS ?_
 simp only [AP]
 refine wpAnyS_takeL 4 (v := .agg (Iv .u8 (NI s))) rfl (by kernel_rfl) (by kernel_rfl) (by kernel_rfl) (fun _ _ _ H => H) (cert_load_sig (S := fun w' => Blk w' W.heap.size 23 (Iv .u8 (keyOf pk)) ∧ Blk w' (W.heap.size + 1) 50 (cerV t k s)) rfl _ rfl (W.heap.size + 1) t k s LK.out LS.out rfl (fun _ h => h.2)) hS ?_
 simp only [AP]
 clear hS
 refine gstep 2 rfl rfl (by kernel_rfl) ?_
 unfold Oper.wp execOp
 go_simp
 refine (SC.out w2).mono ?_
 rintro _ w3 ⟨v3, rfl, S3, b3⟩
 replace K0 := K0.below' b3
 replace K1 := K1.below' b3
 replace b0 := b0.trans (b3.mono b0.size)
 refine ⟨⟨K0, K1⟩, ?_⟩
 clear SC b3
 refine gstep 5 rfl rfl (by kernel_rfl) ?_
 unfold Oper.wp execOp
 go_simp
 refine (VC.out v3 w3 (HW.out.below b0) S3).mono ?_
 rintro _ w4 ⟨rfl, b4⟩
 replace K0 := K0.below' b4
 replace K1 := K1.below' b4
 replace b0 := b0.trans (b4.mono b0.size)
 have hS := And.intro K0 K1
 refine ⟨hS, ?_⟩
 clear VC S3 b4 K0 K1
 refine wpAnyS_takeL 6 (v := .bool true) rfl (by kernel_rfl) (by kernel_rfl) (by kernel_rfl) (fun _ _ _ H => H) (yieldsIf_assign rfl _ rfl (.bool true) rfl) hS ?_
 simp only [AP]
 refine wpAnyS_done (by kernel_rfl) ?_ _
 refine aK _ _ ?_
 clear aK
 go_wp2
 go_ret
 exact ⟨rfl, b0⟩
theorem three_alloc (W : World) (A B C : Array Value) (t u v : TypeId) : Blk (((W.alloc (.cells A t)).alloc (.cells B u)).alloc (.cells C v)) W.heap.size t A ∧ Blk (((W.alloc (.cells A t)).alloc (.cells B u)).alloc (.cells C v)) (W.heap.size + 1) u B ∧ Blk (((W.alloc (.cells A t)).alloc (.cells B u)).alloc (.cells C v)) (W.heap.size + 2) v C ∧ Below W.heap.size W (((W.alloc (.cells A t)).alloc (.cells B u)).alloc (.cells C v)) :=
 ⟨((Blk.new _ _ _).alloc _).alloc _, (Blk.new' (by simp) _ _).alloc _, Blk.new' (by simp) _ _, (((Below.refl _ _).alloc (Nat.le_refl _) _).alloc (by simp) _).alloc (by simp; omega) _⟩
theorem wp_cert {o : Oper} {a : Act} {w : World} {K : Act → World → Prop} {Q : Exit → Act → World → Prop} (x y : Operand) (ho : o.op = .build 50 #[(0, x), (1, y)]) (t : ByteArray) (k : List Nat) (lk : k.length = 32) (hx : a.eval x = .string t) (hy : a.eval y = .agg (Iv .u8 (NI k)))
  (h : K (a.put o.dst (.agg (cerV t k z64))) w) : o.wp Tryz.prog a w K Q := by
 have hr := run_cert w t k lk
 unfold Oper.wp execOp
 simp only [ho, Sem.run_bind, List.map_toArray, List.map_cons, List.map_nil, hx, hy, hr, Result.andThen_ok]
 exact h
section
variable {P : Program} {md : Region.Mode} {ops : Array Oper} {Q : Exit → Act → World → Prop} {S : World → Prop}
/-- The one operation that is ready is run. -/
theorem hzstep {z fuel : Nat} {listed : Array Bool} {a : Act} {w : World} (i : Nat) {oi : Oper} (hi : ops.toList[i]? = some oi) (hr : Region.ready md ops listed = [i]) (hgd : oi.guard = none)
  (h : oi.wp P a w (fun a' w' => ((listed.setIfInBounds i true).getD z true = false → S w') ∧ wpAnyZ P md ops Q S z fuel (listed.setIfInBounds i true) a' w') Q) : wpAnyZ P md ops Q S z (fuel + 1) listed a w := by
 refine wpAnyZ_one hr ?_
 unfold wpOp
 rw [← Array.getElem?_toList, hi]
 have hw : Region.wanted oi (yielded ops a.tmps) = true := by simp [Region.wanted, hgd]
 simp only [hw, if_true]
 left
 exact h
end
theorem u8_ones (s : List Nat) : (Iv .u8 (NI s)).all (·.oneCell') = true := by rw [vals_iv]; exact all_oneCell_toArray (vals_one' s)
set_option maxHeartbeats 8000000 in
set_option maxRecDepth 100000 in
theorem vouch_c (cu sq : Nat → Nat) (n : Nat) (t : ByteArray) (k : List Nat) (lk : k.length = 32) (bk : Bytes k) (t1 : 1 ≤ t.size) (lt : t.size ≤ 32) (W : World) (HW : SW cu sq W) :
  Calls Tryz.prog 13 #[Key (keyOf n), .string t, .agg (Iv .u8 (NI k))] W fun e w' => e = .returned (.tuple #[.agg (cerV t k (kb (firN cu sq n (sgnL t k)) ++ kb (secN cu sq n (sgnL t k)))), .int .i64 0]) ∧ Below W.heap.size W w' := by
 have ll : (sgnL t k).length < 1152921504606846976 := by rw [sgnL_length t lk]; omega
 have bl := sgnL_bytes t bk
 have VC := fun (bv : Value) (w : World) (h : SW cu sq w) (hb : SB w bv (sgnL t k)) => sign_n cu sq bv (sgnL t k) bl ll n (firN cu sq n (sgnL t k)) (secN cu sq n (sgnL t k)) rfl rfl w h.T h.Q (h5_sb hb) h.X h.Y h.D
 have ls : (kb (firN cu sq n (sgnL t k)) ++ kb (secN cu sq n (sgnL t k))).length = 64 := by rw [List.length_append, kb_length, kb_length]
 have es := ni_sg (firN cu sq n (sgnL t k)) (secN cu sq n (sgnL t k))
 rw [← es] at VC
 generalize kb (firN cu sq n (sgnL t k)) ++ kb (secN cu sq n (sgnL t k)) = s at *
 replace VC := Lib.hid VC
 have SC := Lib.hid (fun (w : World) => signed_c t k z64 lk z64_length (by omega) w)
 have FC := Lib.hid (fun (w : World) => fits_c t.size w true (decide_eq_true ⟨t1, lt⟩))
 have LS := Lib.hid ls
 have LK := Lib.hid lk
 have HW := Lib.hid HW
 have CZ := info_cerV t lk ls
 have CZ0 := info_cerV t lk z64_length
 have kz : (Tryz.prog.info? 23).map (·.size) = some (Iv .u8 (NI k)).size := info_key _ (by rw [NI_length]; exact lk)
 have cz1 := cerV_size t lk z64_length
 have cz2 := cerV_size t lk ls
 clear es bl ll bk lt lk ls t1
 go_enter Tryz.func13, Tryz.ntmps13
 go_upto_region 0 with fail
 rename_i aK
 refine wp_region_seq ?_
 refine wpSeq_wp rfl ?_
 unfold Oper.wp execOp
 go_simp
 refine wpSeq_wp rfl ?_
 unfold Oper.wp execOp
 go_simp
 refine wpSeq_wp rfl ?_
 unfold Oper.wp execOp
 go_simp
 refine sas (.int .i64 0) rfl rfl rfl ?_
 simp only [AP]
 refine wpSeq_nil ?_
 refine aK _ _ ?_
 clear aK
 generalize hW : World.alloc (World.alloc (World.alloc W _) _) _ = w1
 obtain ⟨Z, hZ, K0, K1, KR, b0⟩ : ∃ Z : Array Value, Z.size = 97 ∧ Blk w1 W.heap.size 23 (Iv .u8 (keyOf n)) ∧ Blk w1 (W.heap.size + 1) 23 (Iv .u8 (NI k)) ∧ Blk w1 (W.heap.size + 2) 50 Z ∧ Below W.heap.size W w1 := by
  rw [← hW]
  exact ⟨_, rfl, three_alloc W _ _ _ _ _ _⟩
 clear hW
 go_upto_region 1 with fail
 rename_i aK
 refine wp_region_seq ?_
 refine smv (.string t) rfl rfl rfl ?_
 simp only [AP]
 refine svl (.int .i64 (t.size : Int)) (.inl ⟨by rfl, fun w' _ => by go_simp⟩) ?_
 simp only [AP]
 refine wpSeq_wp rfl ?_
 unfold Oper.wp execOp
 go_simp
 refine (FC.out w1).mono ?_
 rintro _ w2 ⟨rfl, hw⟩
 subst w2
 clear FC
 go_simp
 refine svl (.bool false) (.inl ⟨by rfl, fun w' _ => by go_simp⟩) ?_
 simp only [AP]
 refine wpSeq_nil ?_
 refine (by assumption : ∀ (a : Act) (w : World), _ → _) _ _ ?_
 go_upto_region 3 with fail
 rename_i aK
 refine wp_region_seq ?_
 refine smv (.string t) rfl rfl rfl ?_
 simp only [AP]
 refine wpSeq_yield (S := fun w' => w' = w1) (show YieldsIf _ _ _ _ (.agg (Iv .u8 (NI k))) _ from yieldsIf_row_wanted (S := fun w' => w' = w1) rfl 23 _ rfl (W.heap.size + 1) rfl 23 _ _ (fun _ h => h ▸ K1) Tryz.underlying23 rfl kz) rfl ?_
 simp only [AP]
 refine wpSeq_wp rfl (wp_cert _ _ rfl t k LK.out rfl rfl ?_)
 simp only [AP]
 refine wpSeq_wp rfl ?_
 unfold Oper.wp execOp
 go_simp
 generalize hW : World.alloc w1 _ = w2
 obtain ⟨Z3, hZ3, K3, b3⟩ : ∃ Z3 : Array Value, Z3.size = 97 ∧ Blk w2 w1.heap.size 50 Z3 ∧ Below w1.heap.size w1 w2 := by
  rw [← hW]
  exact ⟨_, rfl, Blk.new _ _ _, (Below.refl _ _).alloc (Nat.le_refl _) _⟩
 clear hW
 have NG := Lib.hid (show W.heap.size + 2 < w1.heap.size from KR.lt)
 replace K0 := K0.below' b3
 replace KR := KR.below' b3
 replace b0 := b0.trans (b3.mono b0.size)
 clear b3 K1
 obtain ⟨g3, hg3⟩ : ∃ g, w1.heap.size = g := ⟨_, rfl⟩
 rw [hg3] at K3 NG ⊢
 clear hg3
 refine wpSeq_store_row rfl 50 _ _ rfl g3 (cerV t k z64) rfl rfl _ _ K3 CZ0 (by rw [cz1]; exact hZ3) (cerV_one _ _ _) ?_
 simp only [Act.put]
 refine wpSeq_nil ?_
 refine (by assumption : ∀ (a : Act) (w : World), _ → _) _ _ ?_
 replace K3 := K3.row (cerV t k z64)
 replace K0 : Blk (w2.setRow g3 (cerV t k z64)) W.heap.size 23 (Iv .u8 (keyOf n)) := K0.rowFar (by have := NG.out; omega) _
 replace KR : Blk (w2.setRow g3 (cerV t k z64)) (W.heap.size + 2) 50 Z := KR.rowFar (by have := NG.out; omega) _
 have gg3 : W.heap.size ≤ g3 := by have := NG.out; omega
 replace b0 := below_setRow b0 gg3 (cerV t k z64)
 generalize World.setRow w2 g3 _ = w3 at *
 have bd := below_drew (Below.refl w3.heap.size w3)
 replace K0 := K0.below' bd
 replace KR := KR.below' bd
 replace K3 := K3.below' bd
 replace b0 := b0.trans (bd.mono b0.size)
 clear bd
 go_upto_region 4 with fail
 rename_i aK
 refine wp_region_Z (S := fun w' => Blk w' W.heap.size 23 (Iv .u8 (keyOf n)) ∧ Blk w' g3 50 (cerV t k z64)) 5 (by kernel_rfl) ?_
 generalize w3.drew = w4 at *
 have hS := And.intro K0 K3
 refine wpAnyZ_takeL 0 (v := .agg (Iv .u8 (keyOf n))) rfl (by kernel_rfl) (by kernel_rfl) (by kernel_rfl) (by kernel_rfl) (by kernel_rfl) (fun _ _ _ H => H) (show YieldsIf _ _ _ _ (.agg (Iv .u8 (keyOf n))) _ from yieldsIf_row_wanted (S := fun w' => Blk w' W.heap.size 23 (Iv .u8 (keyOf n)) ∧ Blk w' g3 50 (cerV t k z64)) rfl 23 _ rfl W.heap.size rfl 23 _ _ (fun _ h => h.1) Tryz.underlying23 rfl (info_key _ (keyOf_length _))) hS ?_
 simp only [AP]
 refine wpAnyZ_takeL 1 (v := .agg (cerV t k z64)) rfl (by kernel_rfl) (by kernel_rfl) (by kernel_rfl) (by kernel_rfl) (by kernel_rfl) (fun _ _ _ H => H) (show YieldsIf _ _ _ _ (.agg (cerV t k z64)) _ from yieldsIf_row_wanted (S := fun w' => Blk w' W.heap.size 23 (Iv .u8 (keyOf n)) ∧ Blk w' g3 50 (cerV t k z64)) rfl 50 _ rfl g3 rfl 50 _ _ (fun _ h => h.2) Tryz.underlying50 rfl CZ0) hS ?_
 simp only [AP]
 clear hS
 refine hzstep 2 rfl (by kernel_rfl) rfl ?_
 unfold Oper.wp execOp
 go_simp
 refine (SC.out w4).mono ?_
 rintro _ w5 ⟨v5, rfl, S5, b5⟩
 replace K0 := K0.below' b5
 replace K3 := K3.below' b5
 replace KR := KR.below' b5
 replace b0 := b0.trans (b5.mono b0.size)
 refine ⟨⟨K0, K3⟩, ?_⟩
 clear SC b5
 refine hzstep 3 rfl (by kernel_rfl) rfl ?_
 unfold Oper.wp execOp
 go_simp
 refine (VC.out v5 w5 (HW.out.below b0) S5).mono ?_
 rintro _ w6 ⟨rfl, b6⟩
 replace K0 := K0.below' b6
 replace K3 := K3.below' b6
 replace KR := KR.below' b6
 replace b0 := b0.trans (b6.mono b0.size)
 have hS := And.intro K0 K3
 refine ⟨hS, ?_⟩
 clear VC S5 b6
 refine wpAnyZ_takeL 4 (v := .pointer (some ⟨g3, 33, none⟩)) rfl (by kernel_rfl) (by kernel_rfl) (by kernel_rfl) (by kernel_rfl) (by kernel_rfl) (fun _ _ _ H => H) (Or.inl ⟨by rfl, fun w' hw' => by (go_simp)⟩) hS ?_
 simp only [AP]
 refine hzstep 5 rfl (by kernel_rfl) rfl (wp_store_mid 48 _ _ rfl g3 33 (Iv .u8 (NI s)) rfl rfl (row_there K3 33 _ (by rw [cz1, Iv_size, NI_length, LS.out]; decide)) (by rw [Iv_size, NI_length, LS.out]; kernel_rfl) (u8_ones s) ⟨fun e => Bool.noConfusion ((e.symm.trans (show _ = true from rfl) : false = true)), ?_⟩)
 simp only [Act.put]
 rw [show (Iv .u8 (NI s)).toList = vals s by rw [vals_iv]]
 replace K3 := cert_put LK.out z64_length K3 s LS.out
 replace KR : Blk (w6.setCells g3 33 (vals s)) (W.heap.size + 2) 50 Z := blk_setV_far (by have := NG.out; omega) _ _ _ KR
 replace b0 := below_setV (B := W.heap.size) (w0 := W) gg3 (vals s) 33 w6 b0
 refine wpAnyZ_done (by kernel_rfl) ?_ _
 refine aK _ _ ?_
 clear aK hS K0
 generalize World.setCells w6 _ _ _ = w7 at *
 go_upto_region 5 with fail
 rename_i aK
 refine wp_region_seq ?_
 refine wpSeq_yield (S := fun w' => w' = w7) (show YieldsIf _ _ _ _ (.agg (cerV t k s)) _ from yieldsIf_row_wanted (S := fun w' => w' = w7) rfl 50 _ rfl g3 rfl 50 _ _ (fun _ h => h ▸ K3) Tryz.underlying50 rfl CZ) rfl ?_
 simp only [AP]
 refine wpSeq_store_row rfl 50 _ _ rfl (W.heap.size + 2) (cerV t k s) rfl rfl _ _ KR CZ (by rw [cz2]; exact hZ) (cerV_one _ _ _) ?_
 simp only [Act.put]
 refine sas (.int .i64 0) rfl rfl rfl ?_
 simp only [AP]
 refine wpSeq_nil ?_
 refine (by assumption : ∀ (a : Act) (w : World), _ → _) _ _ ?_
 go_wp2
 refine bodyPost_ret (results_cell_tmp rfl _ _ _ 50 _ (0, 0) _ _ rfl (Blk.row KR _) Tryz.underlying50 rfl CZ rfl) rfl ?_
 exact ⟨rfl, below_setRow b0 (by omega) _⟩
end Go.Proofs.YtegbnadnodlalaaGreatDoor
namespace Go.Proofs.YtegbnadnodlalaaGreatDoor
open Go.RowKit
open Ed
theorem yieldsIf_build {ops : Array Oper} {S : World → Prop} {o : Oper} {a : Act} (hgd : Region.wanted o (yielded ops a.tmps) = true) (t : TypeId) (parts : Array (Nat × Operand)) (ho : o.op = .build t parts) (cells : Array Value) (h : Tryz.prog.built t ((parts.map fun (i, x) => (i, a.eval x)).toList) = some cells) : YieldsIf Tryz.prog ops S o (.agg cells) a := by
 refine Or.inl ⟨hgd, fun w _ => ?_⟩
 simp only [execOp, ho, Sem.run_bind, run_build w t _ cells h, Result.andThen_ok, Sem.run_pure]
theorem built_one : Tryz.prog.built 23 [(0, .int .u8 1)] = some (Iv .u8 (keyOf 1)) := by kernel_rfl
theorem built_two : Tryz.prog.built 23 [(0, .int .u8 2)] = some (Iv .u8 (NI (kb 2))) := by kernel_rfl
def mL : List Nat := [15, 0, 0, 1, 120]
theorem msg_x : msgF 15 [120] = (0, mL) := by decide
theorem row_x (W : World) : W.alloc (.cells #[.int .u8 120] 5) = W.alloc (.cells (vals [120]).toArray 5) := rfl
theorem str_mL : (Value.string ⟨#[15, 0, 0, 1, 120]⟩) = .string (strB mL) := by kernel_rfl
set_option maxHeartbeats 8000000 in
set_option maxRecDepth 100000 in
theorem awake14_c (cu sq : Nat → Nat) (W : World) (HW : SW cu sq W) : Calls Tryz.prog 4 #[] W fun e w' => e = .returned (.bool true) ∧ Below W.heap.size W w' := by
 have MC := fun (p : Option Addr) (c : Nat) (w : World) (h : SB w (.slice p 1 c) [120]) => msg_c 15 [120] p 1 c (by decide) w h
 rw [msg_x] at MC
 replace MC := Lib.hid MC
 have k2 := kb_length 2
 have VO := Lib.hid (fun (w : World) (h : SW cu sq w) => vouch_c cu sq 1 ⟨#[97]⟩ (kb 2) k2 (kb_by 2) (by decide) (by decide) w h)
 have VD := Lib.hid (fun (w : World) (h : SW cu sq w) => vouched_c cu sq 1 ⟨#[97]⟩ (kb 2) k2 (kb_by 2) (by decide) w h)
 have PC := Lib.hid (fun (w : World) (h : SW cu sq w) => public_n cu sq 1 (pubN cu sq 1) rfl w h.T h.Q h.X h.Y h.D)
 have ls : (kb (firN cu sq 1 (sgnL ⟨#[97]⟩ (kb 2))) ++ kb (secN cu sq 1 (sgnL ⟨#[97]⟩ (kb 2)))).length = 64 := by rw [List.length_append, kb_length, kb_length]
 generalize kb (firN cu sq 1 (sgnL ⟨#[97]⟩ (kb 2))) ++ kb (secN cu sq 1 (sgnL ⟨#[97]⟩ (kb 2))) = s at *
 have CZ := info_cerV ⟨#[97]⟩ k2 ls
 have cz := cerV_size ⟨#[97]⟩ k2 ls
 have C1 := Lib.hid (cerV_one ⟨#[97]⟩ (kb 2) s)
 generalize cerV ⟨#[97]⟩ (kb 2) s = CV at *
 generalize pubN cu sq 1 = pk at *
 have HW := Lib.hid HW
 have B2 := Lib.hid built_two
 generalize kb 2 = K2 at *
 have B1 := Lib.hid built_one
 generalize keyOf 1 = K1 at *
 clear k2 ls
 go_enter Tryz.func4, Tryz.ntmps4
 go_upto_region 1 with fail
 rename_i aK
 refine wp_region_seq ?_
 refine wpSeq_wp rfl ?_
 unfold Oper.wp execOp
 go_simp
 rw [row_x]
 have KX := Blk.new W 5 (vals [120]).toArray
 have b0 := (Below.refl W.heap.size W).alloc (Nat.le_refl _) (.cells (vals [120]).toArray 5)
 generalize World.alloc W _ = w1 at *
 refine wpSeq_wp rfl (wp_mark _ rfl W.heap.size 1 1 _ rfl KX ?_)
 intro w2 hc hz hb
 have S0 : SB w2 (.slice (some ⟨W.heap.size, 0, none⟩) 1 1) [120] := SB.of_ba' ((ba_vals KX).same hc hz) rfl (Nat.le_refl _)
 replace b0 := hb _ _ (Nat.le_refl _) b0
 simp only [AP]
 clear hc hz hb KX
 refine wpSeq_wp rfl ?_
 unfold Oper.wp execOp
 go_simp
 refine (MC.out _ _ w2 S0).mono ?_
 rintro _ w3 ⟨v1, rfl, O1, b1⟩
 replace O1 := O1.mono b0.size
 replace b0 := b0.trans (b1.mono b0.size)
 clear MC S0 b1
 go_simp
 refine smv (.tuple #[v1, .int .i64 0]) rfl rfl rfl ?_
 simp only [AP]
 refine svl (v1) (.inl ⟨by rfl, fun w' _ => by go_simp⟩) ?_
 simp only [AP]
 refine svl (.int .i64 0) (.inl ⟨by rfl, fun w' _ => by go_simp⟩) ?_
 simp only [AP]
 refine sas (v1) rfl rfl rfl ?_
 simp only [AP]
 refine sas (.int .i64 0) rfl rfl rfl ?_
 simp only [AP]
 refine wpSeq_nil ?_
 refine (by assumption : ∀ (a : Act) (w : World), _ → _) _ _ ?_
 go_upto_region 2 with fail
 rename_i aK
 refine wp_region_seq ?_
 refine wpSeq_yield (S := fun _ => True) (yieldsIf_build rfl _ _ rfl _ (by simp only [List.map_toArray, List.map_cons, List.map_nil]; exact B1.out)) trivial ?_
 simp only [AP]
 refine wpSeq_yield (S := fun _ => True) (yieldsIf_build rfl _ _ rfl _ (by simp only [List.map_toArray, List.map_cons, List.map_nil]; exact B2.out)) trivial ?_
 simp only [AP]
 refine wpSeq_wp rfl ?_
 unfold Oper.wp execOp
 go_simp
 refine (VO.out w3 (HW.out.below b0)).mono ?_
 rintro _ w4 ⟨rfl, b1⟩
 replace O1 := O1.below b1
 replace b0 := b0.trans (b1.mono b0.size)
 have olt := fun j (h : v1.ownBlock = some j) => (O1.lt j h).2
 clear VO b1
 go_simp
 refine smv (.tuple #[.agg CV, .int .i64 0]) rfl rfl rfl ?_
 simp only [AP]
 refine svl (.agg CV) (.inl ⟨by rfl, fun w' _ => by go_simp⟩) ?_
 simp only [AP]
 refine svl (.int .i64 0) (.inl ⟨by rfl, fun w' _ => by go_simp⟩) ?_
 simp only [AP]
 refine wpSeq_wp rfl ?_
 unfold Oper.wp execOp
 go_simp
 generalize hW : World.alloc w4 _ = w5
 obtain ⟨Z3, hZ3, K3, b3⟩ : ∃ Z3 : Array Value, Z3.size = 97 ∧ Blk w5 w4.heap.size 50 Z3 ∧ Below w4.heap.size w4 w5 := by
  rw [← hW]
  exact ⟨_, rfl, Blk.new _ _ _, (Below.refl _ _).alloc (Nat.le_refl _) _⟩
 clear hW
 replace O1 := O1.below b3
 have g3 : W.heap.size ≤ w4.heap.size := b0.size
 replace b0 := b0.trans (b3.mono b0.size)
 obtain ⟨g, hg⟩ : ∃ g, w4.heap.size = g := ⟨_, rfl⟩
 have OG := Lib.hid (show ∀ j, v1.ownBlock = some j → j ≠ g from fun j h => by have := olt j h; omega)
 rw [hg] at K3 g3 ⊢
 clear hg b3 olt
 refine wpSeq_store_row rfl 50 _ _ rfl g CV rfl rfl _ _ K3 CZ (by rw [cz]; exact hZ3) C1.out ?_
 simp only [Act.put]
 refine sas (.int .i64 0) rfl rfl rfl ?_
 simp only [AP]
 refine wpSeq_nil ?_
 refine (by assumption : ∀ (a : Act) (w : World), _ → _) _ _ ?_
 replace K3 := K3.row CV
 replace O1 : OwL W.heap.size (w5.setRow g CV) v1 mL := O1.of_block fun j hj => setRow_other w5 g j CV (OG.out j hj)
 replace b0 := below_setRow b0 g3 CV
 generalize World.setRow w5 g _ = w6 at *
 have S1 := O1.sb
 have bd := below_drew (Below.refl w6.heap.size w6)
 replace S1 := S1.below bd
 replace K3 := K3.below' bd
 replace b0 := b0.trans (bd.mono b0.size)
 clear bd O1 OG
 go_upto_region 3 with fail
 rename_i aK
 refine wp_region_S (S := fun w' => SB w' v1 mL ∧ Blk w' g 50 CV) (by kernel_rfl) ?_
 generalize w6.drew = w7 at *
 have hS := And.intro S1 K3
 refine wpAnyS_takeL 0 (v := .int .i64 0) rfl (by kernel_rfl) (by kernel_rfl) (by kernel_rfl) (fun _ _ _ H => H) (yieldsIf_move rfl _ rfl (.int .i64 0) rfl) hS ?_
 simp only [AP]
 refine wpAnyS_takeL 1 (v := .bool true) rfl (by kernel_rfl) (by kernel_rfl) (by kernel_rfl) (fun _ _ _ H => H) (Or.inl ⟨by rfl, fun w' hw' => by go_simp⟩) hS ?_
 simp only [AP]
 refine wpAnyS_takeL 2 (v := .bool true) rfl (by kernel_rfl) (by kernel_rfl) (by kernel_rfl) (fun _ _ _ H => H) (yieldsIf_move rfl _ rfl (.bool true) rfl) hS ?_
 simp only [AP]
 refine wpAnyS_takeL 3 (v := v1) rfl (by kernel_rfl) (by kernel_rfl) (by kernel_rfl) (fun _ _ _ H => H) (yieldsIf_move rfl _ rfl (v1) rfl) hS ?_
 simp only [AP]
 refine wpAnyS_takeL 4 (v := .string (strB mL)) rfl (by kernel_rfl) (by kernel_rfl) (by kernel_rfl) (fun _ _ _ H => H) (yieldsIf_conv (S := fun w' => SB w' v1 mL ∧ Blk w' g 50 CV) rfl _ rfl v1 rfl mL (fun _ h => h.1)) hS ?_
 simp only [AP]
 refine wpAnyS_takeL 5 (v := .bool true) rfl (by kernel_rfl) (by kernel_rfl) (by kernel_rfl) (fun _ _ _ H => H) (yieldsIf_strB rfl _ _ rfl mL mL rfl str_mL rfl) hS ?_
 simp only [AP]
 refine wpAnyS_takeL 6 (v := .bool true) rfl (by kernel_rfl) (by kernel_rfl) (by kernel_rfl) (fun _ _ _ H => H) (yieldsIf_pick rfl _ _ _ rfl true rfl (.bool true) rfl) hS ?_
 simp only [AP]
 refine wpAnyS_takeL 7 (v := .bool true) rfl (by kernel_rfl) (by kernel_rfl) (by kernel_rfl) (fun _ _ _ H => H) (yieldsIf_move rfl _ rfl (.bool true) rfl) hS ?_
 simp only [AP]
 refine wpAnyS_takeL 8 (v := .int .i64 0) rfl (by kernel_rfl) (by kernel_rfl) (by kernel_rfl) (fun _ _ _ H => H) (yieldsIf_move rfl _ rfl (.int .i64 0) rfl) hS ?_
 simp only [AP]
 refine wpAnyS_takeL 9 (v := .bool true) rfl (by kernel_rfl) (by kernel_rfl) (by kernel_rfl) (fun _ _ _ H => H) (Or.inl ⟨by rfl, fun w' hw' => by go_simp⟩) hS ?_
 simp only [AP]
 refine wpAnyS_takeL 10 (v := .bool true) rfl (by kernel_rfl) (by kernel_rfl) (by kernel_rfl) (fun _ _ _ H => H) (yieldsIf_pick rfl _ _ _ rfl true rfl (.bool true) rfl) hS ?_
 simp only [AP]
 refine wpAnyS_takeL 11 (v := .bool true) rfl (by kernel_rfl) (by kernel_rfl) (by kernel_rfl) (fun _ _ _ H => H) (yieldsIf_move rfl _ rfl (.bool true) rfl) hS ?_
 simp only [AP]
 refine wpAnyS_takeL 12 (v := .agg (Iv .u8 K1)) rfl (by kernel_rfl) (by kernel_rfl) (by kernel_rfl) (fun _ _ _ H => H) (yieldsIf_build rfl _ _ rfl _ (by simp only [List.map_toArray, List.map_cons, List.map_nil]; exact B1.out)) hS ?_
 simp only [AP]
 refine wpAnyS_takeL 14 (v := .agg CV) rfl (by kernel_rfl) (by kernel_rfl) (by kernel_rfl) (fun _ _ _ H => H) (show YieldsIf _ _ _ _ (.agg CV) _ from yieldsIf_row_wanted (S := fun w' => SB w' v1 mL ∧ Blk w' g 50 CV) rfl 50 _ rfl g rfl 50 _ _ (fun _ h => h.2) Tryz.underlying50 rfl CZ) hS ?_
 simp only [AP]
 clear hS B1 B2
 refine gstep 13 rfl rfl (by kernel_rfl) ?_
 unfold Oper.wp execOp
 go_simp
 refine (PC.out w7 (HW.out.below b0)).mono ?_
 rintro _ w8 ⟨rfl, b1⟩
 replace S1 := S1.below b1
 replace K3 := K3.below' b1
 replace b0 := b0.trans (b1.mono b0.size)
 refine ⟨⟨S1, K3⟩, ?_⟩
 clear PC b1
 refine gstep 15 rfl rfl (by kernel_rfl) ?_
 unfold Oper.wp execOp
 go_simp
 refine (VD.out w8 (HW.out.below b0)).mono ?_
 rintro _ w9 ⟨rfl, b1⟩
 replace S1 := S1.below b1
 replace K3 := K3.below' b1
 replace b0 := b0.trans (b1.mono b0.size)
 have hS := And.intro S1 K3
 refine ⟨hS, ?_⟩
 clear VD b1 S1 K3
 refine wpAnyS_takeL 16 (v := .bool true) rfl (by kernel_rfl) (by kernel_rfl) (by kernel_rfl) (fun _ _ _ H => H) (yieldsIf_pick rfl _ _ _ rfl true rfl (.bool true) rfl) hS ?_
 simp only [AP]
 refine wpAnyS_takeL 17 (v := .bool true) rfl (by kernel_rfl) (by kernel_rfl) (by kernel_rfl) (fun _ _ _ H => H) (yieldsIf_assign rfl _ rfl (.bool true) rfl) hS ?_
 simp only [AP]
 refine wpAnyS_done (by kernel_rfl) ?_ _
 refine aK _ _ ?_
 clear aK
 go_wp2
 go_ret
 exact ⟨rfl, b0⟩
end Go.Proofs.YtegbnadnodlalaaGreatDoor
namespace Go.Proofs.YtegbnadnodlalaaGreatDoor
open Go.RowKit
def AwakeC (W : World) : Prop := ∀ w, Below W.heap.size W w → Calls Tryz.prog 4 #[] w fun e w' => e = .returned (.bool true) ∧ Below w.heap.size w w'
theorem msgB_small (k : Nat) (b : List Nat) (h : b.length ≤ 5000) : msgB k b = [k, 0, b.length / 256, b.length % 256] ++ b := by
 unfold msgB
 rw [show b.length / 65536 = 0 by omega, show b.length / 256 % 256 = b.length / 256 by omega]
 rfl
theorem msgB_bytes {k : Nat} {b : List Nat} (hk : k < 256) (hb : Bytes b) (h : b.length ≤ 5000) : Bytes (msgB k b) := by
 rw [msgB_small k b h]
 refine Bytes.append (fun x hx => ?_) hb
 simp only [List.mem_cons, List.not_mem_nil, or_false] at hx
 omega
end Go.Proofs.YtegbnadnodlalaaGreatDoor
