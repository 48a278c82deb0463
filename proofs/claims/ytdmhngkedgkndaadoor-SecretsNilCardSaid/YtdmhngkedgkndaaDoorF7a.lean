/- The laws SecretsFinished, SecretsNil (printed by gen15/fj.py). -/
import Derived.Test.YtdmhngkedgkndaaDoorF6b
namespace Go.Proofs.YtdmhngkedgkndaaDoor
open Go.RowKit
set_option maxHeartbeats 8000000 in
set_option maxRecDepth 100000 in
theorem lfin_c (s x : List Nat) (ls : s.length = 32) (bs : Bytes s) (lx : x.length = 32) (bx : Bytes x) (W : World) (T : Tab W cuT) (Q : Sq W sqT) (RR : Ref W cuT sqT) :
    Calls Tryd.prog 4 #[.agg (Iv .u8 (NI s)), .agg (Iv .u8 (NI x))] W fun e w' => e = .returned (.bool true) ∧ Below W.heap.size W w' := by
  have AC := Lib.hid (fun (w : World) (b : Below W.heap.size W w) => awake_c w (T.below b) (Q.below b) (RR.below b))
  have FC := Lib.hid (fun (w : World) (b : Below W.heap.size W w) => fin_c s x ls bs lx bx w (T.below b) (Q.below b))
  have RC := Lib.hid (fun (w : World) (b : Below W.heap.size W w) => rfin_c s x ls bs lx bx w (RR.below b))
  have lF := Lib.hid (finL_length s x)
  generalize finL s x = F at *
  have lS := Lib.hid ls
  have lX := Lib.hid lx
  clear T Q RR bs bx ls lx
  go_enter Tryd.func4, Tryd.ntmps4
  go_upto_region 0 with fail
  rename_i aK
  refine wp_region_seq ?_
  refine wpSeq_wp rfl ?_
  unfold Oper.wp execOp
  go_simp
  refine wpSeq_wp rfl ?_
  unfold Oper.wp execOp
  go_simp
  refine wpSeq_yield (S := fun _ => True) (yieldsIf_assign rfl _ rfl (.bool false) rfl) trivial ?_
  simp only [AP]
  refine wpSeq_nil ?_
  refine (by assumption : ∀ (a : Act) (w : World), _ → _) _ _ ?_
  generalize hW : World.alloc (World.alloc W _) _ = w1
  obtain ⟨K0, K1, b⟩ : Blk w1 W.heap.size 28 (Iv .u8 (NI s)) ∧ Blk w1 (W.heap.size + 1) 28 (Iv .u8 (NI x)) ∧ Below W.heap.size W w1 := by
    rw [← hW]
    exact two_alloc W _ _ _ _
  clear hW
  go_upto_region 1 with fail
  rename_i aK
  refine wp_region_seq ?_
  refine wpSeq_wp rfl ?_
  unfold Oper.wp execOp
  go_simp
  refine (AC.out w1 b).mono ?_
  rintro _ w2 ⟨rfl, b2⟩
  replace K0 := K0.below' b2
  replace K1 := K1.below' b2
  replace b := b.trans (b2.mono b.size)
  clear b2 AC
  go_simp
  refine wpSeq_yield (S := fun _ => True) (v := .bool false) (Or.inl ⟨by rfl, fun w' hw' => by go_simp⟩) trivial ?_
  simp only [AP]
  refine wpSeq_nil ?_
  refine (by assumption : ∀ (a : Act) (w : World), _ → _) _ _ ?_
  have bd := below_drew (Below.refl w2.heap.size w2)
  replace K0 := K0.below' bd
  replace K1 := K1.below' bd
  replace b := b.trans (bd.mono b.size)
  clear bd
  go_upto_region 3 with fail
  rename_i aK
  refine wp_region_S (S := fun w' => Below w2.drew.heap.size w2.drew w') (by kernel_rfl) ?_
  generalize w2.drew = w3 at *
  have hS := Below.refl w3.heap.size w3
  have R0 := Lib.hid (fun (w' : World) (h : Below w3.heap.size w3 w') => K0.below' h)
  have R1 := Lib.hid (fun (w' : World) (h : Below w3.heap.size w3 w') => K1.below' h)
  clear K0 K1
  refine wpAnyS_takeL 0 (v := .agg (Iv .u8 (NI s))) rfl (by kernel_rfl) (by kernel_rfl) (by kernel_rfl) (fun _ _ _ H => H) (show YieldsIf _ _ _ _ (.agg (Iv .u8 (NI s))) _ from yieldsIf_row_wanted (S := fun w' => Below w3.heap.size w3 w') rfl 28 _ rfl (W.heap.size) rfl 28 _ _ R0.out Tryd.underlying28 rfl (info_k32 s lS.out)) hS ?_
  simp only [AP]
  refine wpAnyS_takeL 1 (v := .agg (Iv .u8 (NI x))) rfl (by kernel_rfl) (by kernel_rfl) (by kernel_rfl) (fun _ _ _ H => H) (show YieldsIf _ _ _ _ (.agg (Iv .u8 (NI x))) _ from yieldsIf_row_wanted (S := fun w' => Below w3.heap.size w3 w') rfl 28 _ rfl (W.heap.size + 1) rfl 28 _ _ R1.out Tryd.underlying28 rfl (info_k32 x lX.out)) hS ?_
  simp only [AP]
  refine wpAnyS_takeL 3 (v := .agg (Iv .u8 (NI s))) rfl (by kernel_rfl) (by kernel_rfl) (by kernel_rfl) (fun _ _ _ H => H) (show YieldsIf _ _ _ _ (.agg (Iv .u8 (NI s))) _ from yieldsIf_row_wanted (S := fun w' => Below w3.heap.size w3 w') rfl 28 _ rfl (W.heap.size) rfl 28 _ _ R0.out Tryd.underlying28 rfl (info_k32 s lS.out)) hS ?_
  simp only [AP]
  refine wpAnyS_takeL 4 (v := .agg (Iv .u8 (NI x))) rfl (by kernel_rfl) (by kernel_rfl) (by kernel_rfl) (fun _ _ _ H => H) (show YieldsIf _ _ _ _ (.agg (Iv .u8 (NI x))) _ from yieldsIf_row_wanted (S := fun w' => Below w3.heap.size w3 w') rfl 28 _ rfl (W.heap.size + 1) rfl 28 _ _ R1.out Tryd.underlying28 rfl (info_k32 x lX.out)) hS ?_
  simp only [AP]
  refine gstep 2 rfl rfl (by kernel_rfl) ?_
  unfold Oper.wp execOp
  go_simp
  refine (FC.out w3 b).mono ?_
  rintro _ w4 ⟨rfl, b4⟩
  have hS4 := hS.trans (b4.mono hS.size)
  replace b := b.trans (b4.mono b.size)
  clear b4 hS FC R0 R1
  refine ⟨hS4, ?_⟩
  refine gstep 5 rfl rfl (by kernel_rfl) ?_
  unfold Oper.wp execOp
  go_simp
  refine (RC.out w4 b).mono ?_
  rintro _ w5 ⟨rfl, b5⟩
  have hS := hS4.trans (b5.mono hS4.size)
  replace b := b.trans (b5.mono b.size)
  clear b5 hS4 RC
  refine ⟨hS, ?_⟩
  refine wpAnyS_takeL 6 (v := .bool true) rfl (by kernel_rfl) (by kernel_rfl) (by kernel_rfl) (fun _ _ _ H => H) (yieldsIf_eqs rfl _ _ rfl F lF.out rfl rfl) hS ?_
  simp only [AP]
  refine wpAnyS_takeL 7 (v := .bool true) rfl (by kernel_rfl) (by kernel_rfl) (by kernel_rfl) (fun _ _ _ H => H) (yieldsIf_assign rfl _ rfl (.bool true) rfl) hS ?_
  simp only [AP]
  refine wpAnyS_done (by kernel_rfl) ?_ _
  refine (by assumption : ∀ (a : Act) (w : World), _ → _) _ _ ?_
  clear aK
  go_wp2
  go_ret
  exact ⟨rfl, b⟩
set_option maxHeartbeats 8000000 in
set_option maxRecDepth 100000 in
theorem lnil_c (psk k : List Nat) (t : ByteArray) (pp : Option Addr) (np cp : Nat) (pk : Option Addr) (nk ck : Nat) (W : World) (hp : SB W (.slice pp np cp) psk) (bp : Bytes psk) (_hk : SB W (.slice pk nk ck) k) (_bk : Bytes k) (T : Tab W cuT) (Q : Sq W sqT) (RR : Ref W cuT sqT) :
    Calls Tryd.prog 6 #[.slice pp np cp, .slice pk nk ck, .string t] W fun e w' => e = .returned (.bool true) ∧ Below W.heap.size W w' := by
  have AC := Lib.hid (fun (w : World) (b : Below W.heap.size W w) => awake_c w (T.below b) (Q.below b) (RR.below b))
  have hn := hp.len.1
  have AG := Lib.hid (fun (w : World) (b : Below W.heap.size W w) (h : np ≤ 200) => again_nil psk pp np cp w (T.below b) (Q.below b) (hp.below b) bp (by omega))
  have NG := Lib.hid (fun (w : World) (b : Below W.heap.size W w) (h : np ≤ 200) => new_c psk pp np cp w (T.below b) (Q.below b) (hp.below b) bp (by omega))
  have TC := Lib.hid (fun (w : World) (b : Below W.heap.size W w) (B g : Nat) (v : Value) (h : SS B w g v [] (beginL psk)) (ht : t.size ≤ 100) => traf_c B g v [] (beginL psk) t w h (T.below b) (Q.below b) (Nat.zero_le _) (by omega))
  have lC := Lib.hid (show (cliL [] (beginL psk) t).length = 32 from labL_length _ _ _ _)
  have lV := Lib.hid (show (srvL [] (beginL psk) t).length = 32 from labL_length _ _ _ _)
  generalize cliL [] (beginL psk) t = CL at *
  generalize srvL [] (beginL psk) t = SV at *
  generalize beginL psk = BL at *
  have lZ := Lib.hid z32_length
  generalize hz : z32 = Z at *
  replace hz := Lib.hid hz
  clear T Q RR hp bp _hk _bk hn
  go_enter Tryd.func6, Tryd.ntmps6
  go_upto_region 0 with fail
  rename_i aK
  refine wp_region_seq ?_
  refine wpSeq_yield (S := fun _ => True) (yieldsIf_assign rfl _ rfl (.bool false) rfl) trivial ?_
  simp only [AP]
  refine wpSeq_nil ?_
  refine (by assumption : ∀ (a : Act) (w : World), _ → _) _ _ ?_
  go_upto_region 1 with fail
  rename_i aK
  refine wp_region_seq ?_
  refine wpSeq_wp rfl ?_
  unfold Oper.wp execOp
  go_simp
  refine (AC.out W (Below.refl _ _)).mono ?_
  rintro _ w2 ⟨rfl, b⟩
  clear AC
  go_simp
  refine wpSeq_yield (S := fun _ => True) (v := .bool false) (Or.inl ⟨by rfl, fun w' hw' => by go_simp⟩) trivial ?_
  simp only [AP]
  refine wpSeq_nil ?_
  refine (by assumption : ∀ (a : Act) (w : World), _ → _) _ _ ?_
  by_cases q1 : 200 < np
  · have q1' : (200 : Int) < (np : Int) := by omega
    go_upto_region 3 with fail
    rename_i aK
    refine wp_region_seq ?_
    refine wpSeq_yield (S := fun _ => True) (yieldsIf_move rfl _ rfl (.slice pp np cp) rfl) trivial ?_
    simp only [AP]
    refine wpSeq_yield (S := fun _ => True) (v := .int .i64 (np : Int)) (Or.inl ⟨by rfl, fun w' hw' => by go_simp⟩) trivial ?_
    simp only [AP]
    refine wpSeq_yield (S := fun _ => True) (v := .bool true) (Or.inl ⟨by rfl, fun w' hw' => by (go_simp; try omega)⟩) trivial ?_
    simp only [AP]
    refine wpSeq_yield (S := fun _ => True) (yieldsIf_move rfl _ rfl (.bool true) rfl) trivial ?_
    simp only [AP]
    refine wpSeq_yield (S := fun _ => True) (yieldsIf_off rfl) trivial ?_
    simp only [AP]
    refine wpSeq_yield (S := fun _ => True) (yieldsIf_off rfl) trivial ?_
    simp only [AP]
    refine wpSeq_yield (S := fun _ => True) (yieldsIf_off rfl) trivial ?_
    simp only [AP]
    refine wpSeq_yield (S := fun _ => True) (yieldsIf_pick rfl _ _ _ rfl true rfl (.bool true) rfl) trivial ?_
    simp only [AP]
    refine wpSeq_yield (S := fun _ => True) (yieldsIf_move rfl _ rfl (.bool true) rfl) trivial ?_
    simp only [AP]
    refine wpSeq_yield (S := fun _ => True) (yieldsIf_off rfl) trivial ?_
    simp only [AP]
    refine wpSeq_yield (S := fun _ => True) (yieldsIf_off rfl) trivial ?_
    simp only [AP]
    refine wpSeq_yield (S := fun _ => True) (yieldsIf_off rfl) trivial ?_
    simp only [AP]
    refine wpSeq_yield (S := fun _ => True) (yieldsIf_pick rfl _ _ _ rfl true rfl (.bool true) rfl) trivial ?_
    simp only [AP]
    refine wpSeq_nil ?_
    refine (by assumption : ∀ (a : Act) (w : World), _ → _) _ _ ?_
    go_upto_region 4 with fail
    rename_i aK
    refine wp_region_seq ?_
    refine wpSeq_yield (S := fun _ => True) (yieldsIf_assign rfl _ rfl (.bool true) rfl) trivial ?_
    simp only [AP]
    refine wpSeq_nil ?_
    refine (by assumption : ∀ (a : Act) (w : World), _ → _) _ _ ?_
    go_wp2
    go_ret
    exact ⟨rfl, b⟩
  have q1' : ¬ (200 : Int) < (np : Int) := by omega
  by_cases q2 : 200 < nk
  · have q2' : (200 : Int) < (nk : Int) := by omega
    go_upto_region 3 with fail
    rename_i aK
    refine wp_region_seq ?_
    refine wpSeq_yield (S := fun _ => True) (yieldsIf_move rfl _ rfl (.slice pp np cp) rfl) trivial ?_
    simp only [AP]
    refine wpSeq_yield (S := fun _ => True) (v := .int .i64 (np : Int)) (Or.inl ⟨by rfl, fun w' hw' => by go_simp⟩) trivial ?_
    simp only [AP]
    refine wpSeq_yield (S := fun _ => True) (v := .bool false) (Or.inl ⟨by rfl, fun w' hw' => by (go_simp; try omega)⟩) trivial ?_
    simp only [AP]
    refine wpSeq_yield (S := fun _ => True) (yieldsIf_move rfl _ rfl (.bool false) rfl) trivial ?_
    simp only [AP]
    refine wpSeq_yield (S := fun _ => True) (yieldsIf_move rfl _ rfl (.slice pk nk ck) rfl) trivial ?_
    simp only [AP]
    refine wpSeq_yield (S := fun _ => True) (v := .int .i64 (nk : Int)) (Or.inl ⟨by rfl, fun w' hw' => by go_simp⟩) trivial ?_
    simp only [AP]
    refine wpSeq_yield (S := fun _ => True) (v := .bool true) (Or.inl ⟨by rfl, fun w' hw' => by (go_simp; try omega)⟩) trivial ?_
    simp only [AP]
    refine wpSeq_yield (S := fun _ => True) (yieldsIf_pick rfl _ _ _ rfl false rfl (.bool true) rfl) trivial ?_
    simp only [AP]
    refine wpSeq_yield (S := fun _ => True) (yieldsIf_move rfl _ rfl (.bool true) rfl) trivial ?_
    simp only [AP]
    refine wpSeq_yield (S := fun _ => True) (yieldsIf_off rfl) trivial ?_
    simp only [AP]
    refine wpSeq_yield (S := fun _ => True) (yieldsIf_off rfl) trivial ?_
    simp only [AP]
    refine wpSeq_yield (S := fun _ => True) (yieldsIf_off rfl) trivial ?_
    simp only [AP]
    refine wpSeq_yield (S := fun _ => True) (yieldsIf_pick rfl _ _ _ rfl true rfl (.bool true) rfl) trivial ?_
    simp only [AP]
    refine wpSeq_nil ?_
    refine (by assumption : ∀ (a : Act) (w : World), _ → _) _ _ ?_
    go_upto_region 4 with fail
    rename_i aK
    refine wp_region_seq ?_
    refine wpSeq_yield (S := fun _ => True) (yieldsIf_assign rfl _ rfl (.bool true) rfl) trivial ?_
    simp only [AP]
    refine wpSeq_nil ?_
    refine (by assumption : ∀ (a : Act) (w : World), _ → _) _ _ ?_
    go_wp2
    go_ret
    exact ⟨rfl, b⟩
  have q2' : ¬ (200 : Int) < (nk : Int) := by omega
  by_cases q3 : 100 < t.size
  · have q3' : (100 : Int) < (t.size : Int) := by omega
    go_upto_region 3 with fail
    rename_i aK
    refine wp_region_seq ?_
    refine wpSeq_yield (S := fun _ => True) (yieldsIf_move rfl _ rfl (.slice pp np cp) rfl) trivial ?_
    simp only [AP]
    refine wpSeq_yield (S := fun _ => True) (v := .int .i64 (np : Int)) (Or.inl ⟨by rfl, fun w' hw' => by go_simp⟩) trivial ?_
    simp only [AP]
    refine wpSeq_yield (S := fun _ => True) (v := .bool false) (Or.inl ⟨by rfl, fun w' hw' => by (go_simp; try omega)⟩) trivial ?_
    simp only [AP]
    refine wpSeq_yield (S := fun _ => True) (yieldsIf_move rfl _ rfl (.bool false) rfl) trivial ?_
    simp only [AP]
    refine wpSeq_yield (S := fun _ => True) (yieldsIf_move rfl _ rfl (.slice pk nk ck) rfl) trivial ?_
    simp only [AP]
    refine wpSeq_yield (S := fun _ => True) (v := .int .i64 (nk : Int)) (Or.inl ⟨by rfl, fun w' hw' => by go_simp⟩) trivial ?_
    simp only [AP]
    refine wpSeq_yield (S := fun _ => True) (v := .bool false) (Or.inl ⟨by rfl, fun w' hw' => by (go_simp; try omega)⟩) trivial ?_
    simp only [AP]
    refine wpSeq_yield (S := fun _ => True) (yieldsIf_pick rfl _ _ _ rfl false rfl (.bool false) rfl) trivial ?_
    simp only [AP]
    refine wpSeq_yield (S := fun _ => True) (yieldsIf_move rfl _ rfl (.bool false) rfl) trivial ?_
    simp only [AP]
    refine wpSeq_yield (S := fun _ => True) (yieldsIf_move rfl _ rfl (.string t) rfl) trivial ?_
    simp only [AP]
    refine wpSeq_yield (S := fun _ => True) (v := .int .i64 (t.size : Int)) (Or.inl ⟨by rfl, fun w' hw' => by (go_simp)⟩) trivial ?_
    simp only [AP]
    refine wpSeq_yield (S := fun _ => True) (v := .bool true) (Or.inl ⟨by rfl, fun w' hw' => by (go_simp; try omega)⟩) trivial ?_
    simp only [AP]
    refine wpSeq_yield (S := fun _ => True) (yieldsIf_pick rfl _ _ _ rfl false rfl (.bool true) rfl) trivial ?_
    simp only [AP]
    refine wpSeq_nil ?_
    refine (by assumption : ∀ (a : Act) (w : World), _ → _) _ _ ?_
    go_upto_region 4 with fail
    rename_i aK
    refine wp_region_seq ?_
    refine wpSeq_yield (S := fun _ => True) (yieldsIf_assign rfl _ rfl (.bool true) rfl) trivial ?_
    simp only [AP]
    refine wpSeq_nil ?_
    refine (by assumption : ∀ (a : Act) (w : World), _ → _) _ _ ?_
    go_wp2
    go_ret
    exact ⟨rfl, b⟩
  have q3' : ¬ (100 : Int) < (t.size : Int) := by omega
  go_upto_region 3 with fail
  rename_i aK
  refine wp_region_seq ?_
  refine wpSeq_yield (S := fun _ => True) (yieldsIf_move rfl _ rfl (.slice pp np cp) rfl) trivial ?_
  simp only [AP]
  refine wpSeq_yield (S := fun _ => True) (v := .int .i64 (np : Int)) (Or.inl ⟨by rfl, fun w' hw' => by go_simp⟩) trivial ?_
  simp only [AP]
  refine wpSeq_yield (S := fun _ => True) (v := .bool false) (Or.inl ⟨by rfl, fun w' hw' => by (go_simp; try omega)⟩) trivial ?_
  simp only [AP]
  refine wpSeq_yield (S := fun _ => True) (yieldsIf_move rfl _ rfl (.bool false) rfl) trivial ?_
  simp only [AP]
  refine wpSeq_yield (S := fun _ => True) (yieldsIf_move rfl _ rfl (.slice pk nk ck) rfl) trivial ?_
  simp only [AP]
  refine wpSeq_yield (S := fun _ => True) (v := .int .i64 (nk : Int)) (Or.inl ⟨by rfl, fun w' hw' => by go_simp⟩) trivial ?_
  simp only [AP]
  refine wpSeq_yield (S := fun _ => True) (v := .bool false) (Or.inl ⟨by rfl, fun w' hw' => by (go_simp; try omega)⟩) trivial ?_
  simp only [AP]
  refine wpSeq_yield (S := fun _ => True) (yieldsIf_pick rfl _ _ _ rfl false rfl (.bool false) rfl) trivial ?_
  simp only [AP]
  refine wpSeq_yield (S := fun _ => True) (yieldsIf_move rfl _ rfl (.bool false) rfl) trivial ?_
  simp only [AP]
  refine wpSeq_yield (S := fun _ => True) (yieldsIf_move rfl _ rfl (.string t) rfl) trivial ?_
  simp only [AP]
  refine wpSeq_yield (S := fun _ => True) (v := .int .i64 (t.size : Int)) (Or.inl ⟨by rfl, fun w' hw' => by (go_simp)⟩) trivial ?_
  simp only [AP]
  refine wpSeq_yield (S := fun _ => True) (v := .bool false) (Or.inl ⟨by rfl, fun w' hw' => by (go_simp; try omega)⟩) trivial ?_
  simp only [AP]
  refine wpSeq_yield (S := fun _ => True) (yieldsIf_pick rfl _ _ _ rfl false rfl (.bool false) rfl) trivial ?_
  simp only [AP]
  refine wpSeq_nil ?_
  refine (by assumption : ∀ (a : Act) (w : World), _ → _) _ _ ?_
  have LM := Lib.hid (And.intro (Nat.le_of_not_lt q1) (Nat.le_of_not_lt q3))
  clear q1 q2 q3 q1' q2' q3' 
  go_upto_region 5 with fail
  rename_i aK
  refine wp_region_seq ?_
  refine wpSeq_yield (S := fun _ => True) (yieldsIf_assign rfl _ rfl (.pointer none) rfl) trivial ?_
  simp only [AP]
  refine wpSeq_nil ?_
  refine (by assumption : ∀ (a : Act) (w : World), _ → _) _ _ ?_
  go_upto_region 6 with fail
  rename_i aK
  refine wp_region_seq ?_
  refine wpSeq_yield (S := fun _ => True) (yieldsIf_move rfl _ rfl (.pointer none) rfl) trivial ?_
  simp only [AP]
  refine wpSeq_yield (S := fun _ => True) (yieldsIf_move rfl _ rfl (.slice pk nk ck) rfl) trivial ?_
  simp only [AP]
  refine wpSeq_wp rfl ?_
  unfold Oper.wp execOp
  go_simp
  have bx := (Below.refl w2.heap.size w2).alloc (Nat.le_refl _) (.cells #[.slice pk nk ck] 22)
  replace b := b.trans (bx.mono b.size)
  clear bx
  obtain ⟨g3, hgx⟩ : ∃ k, w2.heap.size = k := ⟨_, rfl⟩
  rw [hgx]
  clear hgx
  generalize World.alloc w2 _ = w3 at *
  refine wpSeq_wp rfl ?_
  unfold Oper.wp execOp
  go_simp
  refine (add_nil _ _ _ w3).mono ?_
  rintro _ w4 ⟨⟨u, rfl⟩, hw4⟩
  subst hw4
  go_simp
  refine wpSeq_nil ?_
  refine (by assumption : ∀ (a : Act) (w : World), _ → _) _ _ ?_
  go_upto_region 7 with fail
  rename_i aK
  refine wp_region_seq ?_
  refine wpSeq_yield (S := fun _ => True) (yieldsIf_move rfl _ rfl (.pointer none) rfl) trivial ?_
  simp only [AP]
  refine wpSeq_yield (S := fun _ => True) (yieldsIf_move rfl _ rfl (.slice pk nk ck) rfl) trivial ?_
  simp only [AP]
  refine wpSeq_wp rfl ?_
  unfold Oper.wp execOp
  go_simp
  refine (next_nil _ _ _ w4).mono ?_
  rintro _ w5 ⟨⟨u, rfl⟩, hw5⟩
  subst hw5
  go_simp
  refine wpSeq_nil ?_
  refine (by assumption : ∀ (a : Act) (w : World), _ → _) _ _ ?_
  go_upto_region 8 with fail
  rename_i aK
  refine wp_region_seq ?_
  refine wpSeq_yield (S := fun _ => True) (yieldsIf_move rfl _ rfl (.pointer none) rfl) trivial ?_
  simp only [AP]
  refine wpSeq_yield (S := fun _ => True) (yieldsIf_move rfl _ rfl (.string t) rfl) trivial ?_
  simp only [AP]
  have TN := traf_nil t w5
  rw [hz.out] at TN
  replace TN := Lib.hid TN
  refine wpSeq_wp rfl ?_
  unfold Oper.wp execOp
  go_simp
  refine (TN.out).mono ?_
  rintro _ w6 ⟨rfl, b6⟩
  replace b := b.trans (b6.mono b.size)
  clear b6 TN
  go_simp
  refine wpSeq_yield (S := fun _ => True) (yieldsIf_move rfl _ rfl (.tuple #[.agg (Iv .u8 (NI Z)), .agg (Iv .u8 (NI Z))]) rfl) trivial ?_
  simp only [AP]
  refine wpSeq_yield (S := fun _ => True) (v := .agg (Iv .u8 (NI Z))) (Or.inl ⟨by rfl, fun w' hw' => by go_simp⟩) trivial ?_
  simp only [AP]
  refine wpSeq_yield (S := fun _ => True) (v := .agg (Iv .u8 (NI Z))) (Or.inl ⟨by rfl, fun w' hw' => by go_simp⟩) trivial ?_
  simp only [AP]
  refine wpSeq_wp rfl ?_
  unfold Oper.wp execOp
  go_simp
  refine wpSeq_wp rfl ?_
  unfold Oper.wp execOp
  go_simp
  generalize hW : World.alloc (World.alloc w6 _) _ = wA
  obtain ⟨Z1, Z2, hZ1, hZ2, J1a, J2a, bA⟩ : ∃ Z1 Z2 : Array Value, Z1.size = 32 ∧ Z2.size = 32 ∧ Blk wA w6.heap.size 28 Z1 ∧ Blk wA (w6.heap.size + 1) 28 Z2 ∧ Below w6.heap.size w6 wA := by
    rw [← hW]
    exact ⟨_, _, rfl, rfl, two_alloc w6 _ _ _ _⟩
  clear hW
  refine wpSeq_store_row rfl 28 _ _ rfl w6.heap.size (Iv .u8 (NI Z)) rfl rfl _ _ J1a (info_k32 Z lZ.out) (by rw [Iv_size, NI_length, lZ.out]; exact hZ1) (u8s_one _) ?_
  simp only [Act.put]
  have J1b := J1a.row (Iv .u8 (NI Z))
  have J2b : Blk (wA.setRow w6.heap.size (Iv .u8 (NI Z))) (w6.heap.size + 1) 28 Z2 := J2a.rowFar (by omega) _
  have bB := below_setRow bA (Nat.le_refl _) (Iv .u8 (NI Z))
  generalize World.setRow wA _ _ = wB at *
  clear J1a J2a bA hZ1
  refine wpSeq_store_row rfl 28 _ _ rfl (w6.heap.size + 1) (Iv .u8 (NI Z)) rfl rfl _ _ J2b (info_k32 Z lZ.out) (by rw [Iv_size, NI_length, lZ.out]; exact hZ2) (u8s_one _) ?_
  simp only [Act.put]
  have J1 : Blk (wB.setRow (w6.heap.size + 1) (Iv .u8 (NI Z))) w6.heap.size 28 (Iv .u8 (NI Z)) := J1b.rowFar (by omega) _
  have J2 := J2b.row (Iv .u8 (NI Z))
  have bC := below_setRow bB (Nat.le_succ _) (Iv .u8 (NI Z))
  generalize World.setRow wB _ _ = w7 at *
  clear J1b J2b bB hZ2
  replace b := b.trans (bC.mono b.size)
  clear bC
  obtain ⟨g8, hg⟩ : ∃ k, w6.heap.size = k := ⟨_, rfl⟩
  rw [hg] at J1 J2 ⊢
  clear hg
  refine wpSeq_nil ?_
  refine (by assumption : ∀ (a : Act) (w : World), _ → _) _ _ ?_
  go_upto_region 9 with fail
  rename_i aK
  refine wp_region_seq ?_
  refine wpSeq_yield (S := fun _ => True) (yieldsIf_move rfl _ rfl (.pointer none) rfl) trivial ?_
  simp only [AP]
  refine wpSeq_yield (S := fun _ => True) (yieldsIf_move rfl _ rfl (.slice pp np cp) rfl) trivial ?_
  simp only [AP]
  refine wpSeq_wp rfl ?_
  unfold Oper.wp execOp
  go_simp
  refine (AG.out w7 b LM.out.1).mono ?_
  rintro _ w8 ⟨gn, rfl, vn, RS, b8⟩
  replace J1 := J1.below' b8
  replace J2 := J2.below' b8
  replace b := b.trans (b8.mono b.size)
  clear b8 AG
  go_simp
  refine wpSeq_yield (S := fun _ => True) (yieldsIf_move rfl _ rfl (.string t) rfl) trivial ?_
  simp only [AP]
  refine wpSeq_wp rfl ?_
  unfold Oper.wp execOp
  go_simp
  refine (TC.out w8 b _ gn _ RS LM.out.2).mono ?_
  rintro _ w9 ⟨rfl, b9⟩
  replace J1 := J1.below' b9
  replace J2 := J2.below' b9
  replace b := b.trans (b9.mono b.size)
  clear b9 RS
  go_simp
  refine wpSeq_yield (S := fun _ => True) (yieldsIf_move rfl _ rfl (.tuple #[.agg (Iv .u8 (NI CL)), .agg (Iv .u8 (NI SV))]) rfl) trivial ?_
  simp only [AP]
  refine wpSeq_yield (S := fun _ => True) (v := .agg (Iv .u8 (NI CL))) (Or.inl ⟨by rfl, fun w' hw' => by go_simp⟩) trivial ?_
  simp only [AP]
  refine wpSeq_yield (S := fun _ => True) (v := .agg (Iv .u8 (NI SV))) (Or.inl ⟨by rfl, fun w' hw' => by go_simp⟩) trivial ?_
  simp only [AP]
  refine wpSeq_wp rfl ?_
  unfold Oper.wp execOp
  go_simp
  refine wpSeq_wp rfl ?_
  unfold Oper.wp execOp
  go_simp
  generalize hW : World.alloc (World.alloc w9 _) _ = wA
  obtain ⟨Z1, Z2, hZ1, hZ2, J1a, J2a, bA⟩ : ∃ Z1 Z2 : Array Value, Z1.size = 32 ∧ Z2.size = 32 ∧ Blk wA w9.heap.size 28 Z1 ∧ Blk wA (w9.heap.size + 1) 28 Z2 ∧ Below w9.heap.size w9 wA := by
    rw [← hW]
    exact ⟨_, _, rfl, rfl, two_alloc w9 _ _ _ _⟩
  clear hW
  refine wpSeq_store_row rfl 28 _ _ rfl w9.heap.size (Iv .u8 (NI CL)) rfl rfl _ _ J1a (info_k32 CL lC.out) (by rw [Iv_size, NI_length, lC.out]; exact hZ1) (u8s_one _) ?_
  simp only [Act.put]
  have J1b := J1a.row (Iv .u8 (NI CL))
  have J2b : Blk (wA.setRow w9.heap.size (Iv .u8 (NI CL))) (w9.heap.size + 1) 28 Z2 := J2a.rowFar (by omega) _
  have bB := below_setRow bA (Nat.le_refl _) (Iv .u8 (NI CL))
  generalize World.setRow wA _ _ = wB at *
  clear J1a J2a bA hZ1
  refine wpSeq_store_row rfl 28 _ _ rfl (w9.heap.size + 1) (Iv .u8 (NI SV)) rfl rfl _ _ J2b (info_k32 SV lV.out) (by rw [Iv_size, NI_length, lV.out]; exact hZ2) (u8s_one _) ?_
  simp only [Act.put]
  have J3 : Blk (wB.setRow (w9.heap.size + 1) (Iv .u8 (NI SV))) w9.heap.size 28 (Iv .u8 (NI CL)) := J1b.rowFar (by omega) _
  have J4 := J2b.row (Iv .u8 (NI SV))
  have bC := below_setRow bB (Nat.le_succ _) (Iv .u8 (NI SV))
  generalize World.setRow wB _ _ = w10 at *
  clear J1b J2b bB hZ2
  replace J1 := J1.below' bC
  replace J2 := J2.below' bC
  replace b := b.trans (bC.mono b.size)
  clear bC
  obtain ⟨g10, hg⟩ : ∃ k, w9.heap.size = k := ⟨_, rfl⟩
  rw [hg] at J3 J4 ⊢
  clear hg
  refine wpSeq_nil ?_
  refine (by assumption : ∀ (a : Act) (w : World), _ → _) _ _ ?_
  go_upto_region 10 with fail
  rename_i aK
  refine wp_region_seq ?_
  refine wpSeq_yield (S := fun _ => True) (yieldsIf_move rfl _ rfl (.slice pp np cp) rfl) trivial ?_
  simp only [AP]
  refine wpSeq_wp rfl ?_
  unfold Oper.wp execOp
  go_simp
  refine (NG.out w10 b LM.out.1).mono ?_
  rintro _ w11 ⟨gm, rfl, RS, b8⟩
  replace J1 := J1.below' b8
  replace J2 := J2.below' b8
  replace J3 := J3.below' b8
  replace J4 := J4.below' b8
  replace b := b.trans (b8.mono b.size)
  clear b8 NG
  go_simp
  refine wpSeq_yield (S := fun _ => True) (yieldsIf_move rfl _ rfl (.string t) rfl) trivial ?_
  simp only [AP]
  refine wpSeq_wp rfl ?_
  unfold Oper.wp execOp
  go_simp
  refine (TC.out w11 b _ gm _ RS LM.out.2).mono ?_
  rintro _ w12 ⟨rfl, b9⟩
  replace J1 := J1.below' b9
  replace J2 := J2.below' b9
  replace J3 := J3.below' b9
  replace J4 := J4.below' b9
  replace b := b.trans (b9.mono b.size)
  clear b9 RS TC
  go_simp
  refine wpSeq_yield (S := fun _ => True) (yieldsIf_move rfl _ rfl (.tuple #[.agg (Iv .u8 (NI CL)), .agg (Iv .u8 (NI SV))]) rfl) trivial ?_
  simp only [AP]
  refine wpSeq_yield (S := fun _ => True) (v := .agg (Iv .u8 (NI CL))) (Or.inl ⟨by rfl, fun w' hw' => by go_simp⟩) trivial ?_
  simp only [AP]
  refine wpSeq_yield (S := fun _ => True) (v := .agg (Iv .u8 (NI SV))) (Or.inl ⟨by rfl, fun w' hw' => by go_simp⟩) trivial ?_
  simp only [AP]
  refine wpSeq_wp rfl ?_
  unfold Oper.wp execOp
  go_simp
  refine wpSeq_wp rfl ?_
  unfold Oper.wp execOp
  go_simp
  generalize hW : World.alloc (World.alloc w12 _) _ = wA
  obtain ⟨Z1, Z2, hZ1, hZ2, J1a, J2a, bA⟩ : ∃ Z1 Z2 : Array Value, Z1.size = 32 ∧ Z2.size = 32 ∧ Blk wA w12.heap.size 28 Z1 ∧ Blk wA (w12.heap.size + 1) 28 Z2 ∧ Below w12.heap.size w12 wA := by
    rw [← hW]
    exact ⟨_, _, rfl, rfl, two_alloc w12 _ _ _ _⟩
  clear hW
  refine wpSeq_store_row rfl 28 _ _ rfl w12.heap.size (Iv .u8 (NI CL)) rfl rfl _ _ J1a (info_k32 CL lC.out) (by rw [Iv_size, NI_length, lC.out]; exact hZ1) (u8s_one _) ?_
  simp only [Act.put]
  have J1b := J1a.row (Iv .u8 (NI CL))
  have J2b : Blk (wA.setRow w12.heap.size (Iv .u8 (NI CL))) (w12.heap.size + 1) 28 Z2 := J2a.rowFar (by omega) _
  have bB := below_setRow bA (Nat.le_refl _) (Iv .u8 (NI CL))
  generalize World.setRow wA _ _ = wB at *
  clear J1a J2a bA hZ1
  refine wpSeq_store_row rfl 28 _ _ rfl (w12.heap.size + 1) (Iv .u8 (NI SV)) rfl rfl _ _ J2b (info_k32 SV lV.out) (by rw [Iv_size, NI_length, lV.out]; exact hZ2) (u8s_one _) ?_
  simp only [Act.put]
  have J5 : Blk (wB.setRow (w12.heap.size + 1) (Iv .u8 (NI SV))) w12.heap.size 28 (Iv .u8 (NI CL)) := J1b.rowFar (by omega) _
  have J6 := J2b.row (Iv .u8 (NI SV))
  have bC := below_setRow bB (Nat.le_succ _) (Iv .u8 (NI SV))
  generalize World.setRow wB _ _ = w13 at *
  clear J1b J2b bB hZ2
  replace J1 := J1.below' bC
  replace J2 := J2.below' bC
  replace J3 := J3.below' bC
  replace J4 := J4.below' bC
  replace b := b.trans (bC.mono b.size)
  clear bC
  obtain ⟨g12, hg⟩ : ∃ k, w12.heap.size = k := ⟨_, rfl⟩
  rw [hg] at J5 J6 ⊢
  clear hg
  refine wpSeq_nil ?_
  refine (by assumption : ∀ (a : Act) (w : World), _ → _) _ _ ?_
  go_upto_region 11 with fail
  rename_i aK
  refine wp_region_seq ?_
  refine wpSeq_yield (S := fun _ => True) (show YieldsIf _ _ _ _ (.agg (Iv .u8 (NI Z))) _ from hz.out ▸ yieldsIf_zero rfl rfl) trivial ?_
  simp only [AP]
  refine wpSeq_wp rfl ?_
  unfold Oper.wp execOp
  go_simp
  refine wpSeq_store_row rfl 28 _ _ rfl w13.heap.size (Iv .u8 (NI Z)) rfl rfl _ _ (Blk.new w13 _ _) (info_k32 Z lZ.out) (size_32 (rfl : (List.replicate 32 0).length = 32) lZ.out) (u8s_one _) ?_
  simp only [Act.put]
  refine wpSeq_nil ?_
  refine (by assumption : ∀ (a : Act) (w : World), _ → _) _ _ ?_
  generalize hwx : World.setRow _ w13.heap.size _ = w14
  have FX : Blk w14 w13.heap.size 28 (Iv .u8 (NI Z)) ∧ Below w13.heap.size w13 w14 := by
    rw [← hwx]
    exact one_row _ _ _ _
  clear hwx
  obtain ⟨J7, bx⟩ := FX
  replace J1 := J1.below' bx
  replace J2 := J2.below' bx
  replace J3 := J3.below' bx
  replace J4 := J4.below' bx
  replace J5 := J5.below' bx
  replace J6 := J6.below' bx
  replace b := b.trans (bx.mono b.size)
  clear bx
  obtain ⟨g14, hg14⟩ : ∃ k, w13.heap.size = k := ⟨_, rfl⟩
  rw [hg14] at J7 ⊢
  clear hg14
  have bd := below_drew (Below.refl w14.heap.size w14)
  replace J1 := J1.below' bd
  replace J2 := J2.below' bd
  replace J3 := J3.below' bd
  replace J4 := J4.below' bd
  replace J5 := J5.below' bd
  replace J6 := J6.below' bd
  replace J7 := J7.below' bd
  replace b := b.trans (bd.mono b.size)
  clear bd
  go_upto_region 12 with fail
  rename_i aK
  refine wp_region_S (S := fun w' => Below w14.drew.heap.size w14.drew w') (by kernel_rfl) ?_
  generalize w14.drew = w15 at *
  have hS := Below.refl w15.heap.size w15
  have RJ1 := Lib.hid (fun (w' : World) (h : Below w15.heap.size w15 w') => J1.below' h)
  clear J1
  have RJ2 := Lib.hid (fun (w' : World) (h : Below w15.heap.size w15 w') => J2.below' h)
  clear J2
  have RJ3 := Lib.hid (fun (w' : World) (h : Below w15.heap.size w15 w') => J3.below' h)
  clear J3
  have RJ4 := Lib.hid (fun (w' : World) (h : Below w15.heap.size w15 w') => J4.below' h)
  clear J4
  have RJ5 := Lib.hid (fun (w' : World) (h : Below w15.heap.size w15 w') => J5.below' h)
  clear J5
  have RJ6 := Lib.hid (fun (w' : World) (h : Below w15.heap.size w15 w') => J6.below' h)
  clear J6
  have RJ7 := Lib.hid (fun (w' : World) (h : Below w15.heap.size w15 w') => J7.below' h)
  clear J7
  refine wpAnyS_takeL 0 (v := .pointer none) rfl (by kernel_rfl) (by kernel_rfl) (by kernel_rfl) (fun _ _ _ H => H) (yieldsIf_move rfl _ rfl (.pointer none) rfl) hS ?_
  simp only [AP]
  refine wpAnyS_takeL 1 (v := .slice pk nk ck) rfl (by kernel_rfl) (by kernel_rfl) (by kernel_rfl) (fun _ _ _ H => H) (yieldsIf_move rfl _ rfl (.slice pk nk ck) rfl) hS ?_
  simp only [AP]
  refine wpAnyS_takeL 4 (v := .agg (Iv .u8 (NI Z))) rfl (by kernel_rfl) (by kernel_rfl) (by kernel_rfl) (fun _ _ _ H => H) (show YieldsIf _ _ _ _ (.agg (Iv .u8 (NI Z))) _ from yieldsIf_row_wanted (S := fun w' => Below w15.heap.size w15 w') rfl 28 _ rfl (g14) rfl 28 _ _ RJ7.out Tryd.underlying28 rfl (info_k32 Z lZ.out)) hS ?_
  simp only [AP]
  refine gstep 2 rfl rfl (by kernel_rfl) ?_
  unfold Oper.wp execOp
  go_simp
  have bx := (Below.refl w15.heap.size w15).alloc (Nat.le_refl _) (.cells #[.slice pk nk ck] 22)
  have hS2 := hS.trans (bx.mono hS.size)
  replace b := b.trans (bx.mono b.size)
  refine ⟨hS2, ?_⟩
  clear bx hS
  generalize World.alloc w15 _ = w16 at *
  refine gstep 3 rfl rfl (by kernel_rfl) ?_
  unfold Oper.wp execOp
  go_simp
  have SN := fun p => sum_nil p 1 1 w16
  rw [hz.out] at SN
  replace SN := Lib.hid SN
  refine (SN.out _).mono ?_
  rintro _ w17 ⟨rfl, b17⟩
  have hS := hS2.trans (b17.mono hS2.size)
  replace b := b.trans (b17.mono b.size)
  clear b17 hS2 SN
  refine ⟨hS, ?_⟩
  refine wpAnyS_takeL 5 (v := .bool true) rfl (by kernel_rfl) (by kernel_rfl) (by kernel_rfl) (fun _ _ _ H => H) (yieldsIf_eqs rfl _ _ rfl Z lZ.out rfl rfl) hS ?_
  simp only [AP]
  refine wpAnyS_takeL 6 (v := .bool true) rfl (by kernel_rfl) (by kernel_rfl) (by kernel_rfl) (fun _ _ _ H => H) (yieldsIf_move rfl _ rfl (.bool true) rfl) hS ?_
  simp only [AP]
  refine wpAnyS_takeL 7 (v := .agg (Iv .u8 (NI Z))) rfl (by kernel_rfl) (by kernel_rfl) (by kernel_rfl) (fun _ _ _ H => H) (show YieldsIf _ _ _ _ (.agg (Iv .u8 (NI Z))) _ from yieldsIf_row_wanted (S := fun w' => Below w15.heap.size w15 w') rfl 28 _ rfl (g8) rfl 28 _ _ RJ1.out Tryd.underlying28 rfl (info_k32 Z lZ.out)) hS ?_
  simp only [AP]
  refine wpAnyS_takeL 8 (v := .agg (Iv .u8 (NI Z))) rfl (by kernel_rfl) (by kernel_rfl) (by kernel_rfl) (fun _ _ _ H => H) (show YieldsIf _ _ _ _ (.agg (Iv .u8 (NI Z))) _ from yieldsIf_row_wanted (S := fun w' => Below w15.heap.size w15 w') rfl 28 _ rfl (g14) rfl 28 _ _ RJ7.out Tryd.underlying28 rfl (info_k32 Z lZ.out)) hS ?_
  simp only [AP]
  refine wpAnyS_takeL 9 (v := .bool true) rfl (by kernel_rfl) (by kernel_rfl) (by kernel_rfl) (fun _ _ _ H => H) (yieldsIf_eqs rfl _ _ rfl Z lZ.out rfl rfl) hS ?_
  simp only [AP]
  refine wpAnyS_takeL 10 (v := .bool true) rfl (by kernel_rfl) (by kernel_rfl) (by kernel_rfl) (fun _ _ _ H => H) (yieldsIf_pick rfl _ _ _ rfl true rfl (.bool true) rfl) hS ?_
  simp only [AP]
  refine wpAnyS_takeL 11 (v := .bool true) rfl (by kernel_rfl) (by kernel_rfl) (by kernel_rfl) (fun _ _ _ H => H) (yieldsIf_move rfl _ rfl (.bool true) rfl) hS ?_
  simp only [AP]
  refine wpAnyS_takeL 12 (v := .agg (Iv .u8 (NI Z))) rfl (by kernel_rfl) (by kernel_rfl) (by kernel_rfl) (fun _ _ _ H => H) (show YieldsIf _ _ _ _ (.agg (Iv .u8 (NI Z))) _ from yieldsIf_row_wanted (S := fun w' => Below w15.heap.size w15 w') rfl 28 _ rfl (g8 + 1) rfl 28 _ _ RJ2.out Tryd.underlying28 rfl (info_k32 Z lZ.out)) hS ?_
  simp only [AP]
  refine wpAnyS_takeL 13 (v := .agg (Iv .u8 (NI Z))) rfl (by kernel_rfl) (by kernel_rfl) (by kernel_rfl) (fun _ _ _ H => H) (show YieldsIf _ _ _ _ (.agg (Iv .u8 (NI Z))) _ from yieldsIf_row_wanted (S := fun w' => Below w15.heap.size w15 w') rfl 28 _ rfl (g14) rfl 28 _ _ RJ7.out Tryd.underlying28 rfl (info_k32 Z lZ.out)) hS ?_
  simp only [AP]
  refine wpAnyS_takeL 14 (v := .bool true) rfl (by kernel_rfl) (by kernel_rfl) (by kernel_rfl) (fun _ _ _ H => H) (yieldsIf_eqs rfl _ _ rfl Z lZ.out rfl rfl) hS ?_
  simp only [AP]
  refine wpAnyS_takeL 15 (v := .bool true) rfl (by kernel_rfl) (by kernel_rfl) (by kernel_rfl) (fun _ _ _ H => H) (yieldsIf_pick rfl _ _ _ rfl true rfl (.bool true) rfl) hS ?_
  simp only [AP]
  refine wpAnyS_takeL 16 (v := .bool true) rfl (by kernel_rfl) (by kernel_rfl) (by kernel_rfl) (fun _ _ _ H => H) (yieldsIf_move rfl _ rfl (.bool true) rfl) hS ?_
  simp only [AP]
  refine wpAnyS_takeL 17 (v := .pointer none) rfl (by kernel_rfl) (by kernel_rfl) (by kernel_rfl) (fun _ _ _ H => H) (yieldsIf_move rfl _ rfl (.pointer none) rfl) hS ?_
  simp only [AP]
  refine wpAnyS_takeL 18 (v := .slice pk nk ck) rfl (by kernel_rfl) (by kernel_rfl) (by kernel_rfl) (fun _ _ _ H => H) (yieldsIf_move rfl _ rfl (.slice pk nk ck) rfl) hS ?_
  simp only [AP]
  refine wpAnyS_takeL 20 (v := .agg (Iv .u8 (NI Z))) rfl (by kernel_rfl) (by kernel_rfl) (by kernel_rfl) (fun _ _ _ H => H) (show YieldsIf _ _ _ _ (.agg (Iv .u8 (NI Z))) _ from yieldsIf_row_wanted (S := fun w' => Below w15.heap.size w15 w') rfl 28 _ rfl (g14) rfl 28 _ _ RJ7.out Tryd.underlying28 rfl (info_k32 Z lZ.out)) hS ?_
  simp only [AP]
  refine gstep 19 rfl rfl (by kernel_rfl) ?_
  unfold Oper.wp execOp
  go_simp
  have SN := bind_nil pk nk ck w17
  rw [hz.out] at SN
  replace SN := Lib.hid SN
  refine SN.out.mono ?_
  rintro _ w18 ⟨rfl, b18⟩
  have hS2 := hS.trans (b18.mono hS.size)
  replace b := b.trans (b18.mono b.size)
  clear b18 hS SN
  refine ⟨hS2, ?_⟩
  refine wpAnyS_takeL 21 (v := .bool true) rfl (by kernel_rfl) (by kernel_rfl) (by kernel_rfl) (fun _ _ _ H => H) (yieldsIf_eqs rfl _ _ rfl Z lZ.out rfl rfl) hS2 ?_
  simp only [AP]
  refine wpAnyS_takeL 22 (v := .bool true) rfl (by kernel_rfl) (by kernel_rfl) (by kernel_rfl) (fun _ _ _ H => H) (yieldsIf_pick rfl _ _ _ rfl true rfl (.bool true) rfl) hS2 ?_
  simp only [AP]
  refine wpAnyS_takeL 23 (v := .bool true) rfl (by kernel_rfl) (by kernel_rfl) (by kernel_rfl) (fun _ _ _ H => H) (yieldsIf_move rfl _ rfl (.bool true) rfl) hS2 ?_
  simp only [AP]
  refine wpAnyS_takeL 24 (v := .agg (Iv .u8 (NI CL))) rfl (by kernel_rfl) (by kernel_rfl) (by kernel_rfl) (fun _ _ _ H => H) (show YieldsIf _ _ _ _ (.agg (Iv .u8 (NI CL))) _ from yieldsIf_row_wanted (S := fun w' => Below w15.heap.size w15 w') rfl 28 _ rfl (g10) rfl 28 _ _ RJ3.out Tryd.underlying28 rfl (info_k32 CL lC.out)) hS2 ?_
  simp only [AP]
  refine wpAnyS_takeL 25 (v := .agg (Iv .u8 (NI CL))) rfl (by kernel_rfl) (by kernel_rfl) (by kernel_rfl) (fun _ _ _ H => H) (show YieldsIf _ _ _ _ (.agg (Iv .u8 (NI CL))) _ from yieldsIf_row_wanted (S := fun w' => Below w15.heap.size w15 w') rfl 28 _ rfl (g12) rfl 28 _ _ RJ5.out Tryd.underlying28 rfl (info_k32 CL lC.out)) hS2 ?_
  simp only [AP]
  refine wpAnyS_takeL 26 (v := .bool true) rfl (by kernel_rfl) (by kernel_rfl) (by kernel_rfl) (fun _ _ _ H => H) (yieldsIf_eqs rfl _ _ rfl CL lC.out rfl rfl) hS2 ?_
  simp only [AP]
  refine wpAnyS_takeL 27 (v := .bool true) rfl (by kernel_rfl) (by kernel_rfl) (by kernel_rfl) (fun _ _ _ H => H) (yieldsIf_pick rfl _ _ _ rfl true rfl (.bool true) rfl) hS2 ?_
  simp only [AP]
  refine wpAnyS_takeL 28 (v := .bool true) rfl (by kernel_rfl) (by kernel_rfl) (by kernel_rfl) (fun _ _ _ H => H) (yieldsIf_move rfl _ rfl (.bool true) rfl) hS2 ?_
  simp only [AP]
  refine wpAnyS_takeL 29 (v := .agg (Iv .u8 (NI SV))) rfl (by kernel_rfl) (by kernel_rfl) (by kernel_rfl) (fun _ _ _ H => H) (show YieldsIf _ _ _ _ (.agg (Iv .u8 (NI SV))) _ from yieldsIf_row_wanted (S := fun w' => Below w15.heap.size w15 w') rfl 28 _ rfl (g10 + 1) rfl 28 _ _ RJ4.out Tryd.underlying28 rfl (info_k32 SV lV.out)) hS2 ?_
  simp only [AP]
  refine wpAnyS_takeL 30 (v := .agg (Iv .u8 (NI SV))) rfl (by kernel_rfl) (by kernel_rfl) (by kernel_rfl) (fun _ _ _ H => H) (show YieldsIf _ _ _ _ (.agg (Iv .u8 (NI SV))) _ from yieldsIf_row_wanted (S := fun w' => Below w15.heap.size w15 w') rfl 28 _ rfl (g12 + 1) rfl 28 _ _ RJ6.out Tryd.underlying28 rfl (info_k32 SV lV.out)) hS2 ?_
  simp only [AP]
  refine wpAnyS_takeL 31 (v := .bool true) rfl (by kernel_rfl) (by kernel_rfl) (by kernel_rfl) (fun _ _ _ H => H) (yieldsIf_eqs rfl _ _ rfl SV lV.out rfl rfl) hS2 ?_
  simp only [AP]
  refine wpAnyS_takeL 32 (v := .bool true) rfl (by kernel_rfl) (by kernel_rfl) (by kernel_rfl) (fun _ _ _ H => H) (yieldsIf_pick rfl _ _ _ rfl true rfl (.bool true) rfl) hS2 ?_
  simp only [AP]
  refine wpAnyS_takeL 33 (v := .bool true) rfl (by kernel_rfl) (by kernel_rfl) (by kernel_rfl) (fun _ _ _ H => H) (yieldsIf_assign rfl _ rfl (.bool true) rfl) hS2 ?_
  simp only [AP]
  refine wpAnyS_done (by kernel_rfl) ?_ _
  refine (by assumption : ∀ (a : Act) (w : World), _ → _) _ _ ?_
  clear aK
  go_wp2
  go_ret
  exact ⟨rfl, b⟩
end Go.Proofs.YtdmhngkedgkndaaDoor
