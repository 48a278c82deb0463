/- The statements' begin, derive, finished (printed by gen15/fh.py). -/
import Derived.Test.YtdmhngkedgkndaaDoorF5b
import Derived.Test.YtdmhngkedgkndaaDoorKEc
import Derived.Deep.OwnRows
namespace Go.Proofs.YtdmhngkedgkndaaDoor
open Go.RowKit
theorem putV_full (Z : Array Value) (m : List Nat) (h : Z.size = m.length) : putV Z 0 m = Iv .u8 (NI m) := by
  unfold putV
  have : Z.toList.drop (0 + m.length) = [] := List.drop_eq_nil_of_le (by rw [Array.length_toList]; omega)
  rw [this, List.take_zero, List.nil_append, List.append_nil]
  simp [vals, Iv, NI]
theorem run_make32 (W : World) : (Instr.makeSlice 22 (.int .i64 32) (.int .i64 32)).run Tryd.prog W = .ok (.slice (some ⟨W.heap.size, 0, none⟩) 32 32) (W.alloc (.cells (Iv .u8 (NI z32)) 5)) := by
  obtain ⟨i, hi, hs, hy, hz⟩ := info_u8
  have h := run_make_row (P := Tryd.prog) 22 5 i (.int .u8 0) Tryd.underlying22 hi hz hs rfl .i64 .i64 32 (by rw [hy]; omega) (by omega) W
  rw [show madeCells #[Value.int IntKind.u8 0] 32 = Iv .u8 (NI z32) by
    apply Array.toList_inj.1
    rw [toList_madeCells_one]
    rfl] at h
  exact h
theorem wp_make32 {o : Oper} {a : Act} {w : World} {K : Act → World → Prop} {Q : Exit → Act → World → Prop} (x y : Operand) (ho : o.op = .makeSlice 22 x y) (hx : a.eval x = .int .i64 32) (hy : a.eval y = .int .i64 32)
    (h : ∀ w', SB w' (.slice (some ⟨w.heap.size, 0, none⟩) 32 32) z32 → Below w.heap.size w w' → K (a.put o.dst (.slice (some ⟨w.heap.size, 0, none⟩) 32 32)) w') : o.wp Tryd.prog a w K Q := by
  unfold Oper.wp execOp
  simp only [ho, Sem.run_bind, hx, hy, run_make32, Result.andThen_ok, Sem.run_pure]
  exact h _ (sb_key (Blk.new w 5 (Iv .u8 (NI z32))) z32_length) ((Below.refl _ _).alloc (Nat.le_refl _) _)
set_option maxHeartbeats 8000000 in
set_option maxRecDepth 100000 in
theorem begin_c (psk : List Nat) (p : Option Addr) (n c : Nat) (W : World) (R : Ref W cuT sqT) (hp : SB W (.slice p n c) psk) (bp : Bytes psk) (hl : psk.length ≤ 100000) :
    Calls Tryd.prog 9 #[.slice p n c] W fun e w' => e = .returned (.agg (Iv .u8 (NI (beginL psk)))) ∧ Below W.heap.size W w' := by
  have lB := Lib.hid (beginL_length psk)
  have hn := hp.len.1
  have HL := Lib.hid hl
  by_cases h0 : psk = []
  · have MC := Lib.hid (fun (w : World) (b : Below W.heap.size W w) (kv mv : Value) (hk : SB w kv z32) (hm : SB w mv z32) => rmac_any w cuT sqT z32 z32 z32_bytes z32_bytes kv mv hk hm (by decide) (by decide) (R.below b))
    rw [show hmac cuT sqT z32 z32 = beginL psk by unfold beginL; rw [if_pos h0]] at MC
    rw [h0, List.length_nil] at hn
    subst hn
    generalize beginL psk = F at *
    clear hp bp hl R h0 HL
    go_enter Tryd.func9, Tryd.ntmps9
    go_upto_region 0 with fail
    rename_i aK
    refine wp_region_seq ?_
    refine wpSeq_wp rfl ?_
    unfold Oper.wp execOp
    go_simp
    refine wpSeq_nil ?_
    refine (by assumption : ∀ (a : Act) (w : World), _ → _) _ _ ?_
    have b := (Below.refl W.heap.size W).alloc (Nat.le_refl _) (.cells (Iv .u8 (NI z32)) 28)
    have K : Blk (W.alloc (.cells (Iv .u8 (NI z32)) 28)) W.heap.size 28 (Iv .u8 (NI z32)) := Blk.new _ _ _
    change Code.wp _ _ _ _ (World.alloc W (.cells (Iv .u8 (NI z32)) 28))
    generalize World.alloc W _ = w1 at *
    go_upto_region 1 with fail
    rename_i aK
    refine wp_region_seq ?_
    refine wpSeq_yield (S := fun _ => True) (yieldsIf_move rfl _ rfl (.slice p 0 c) rfl) trivial ?_
    simp only [AP]
    refine wpSeq_yield (S := fun _ => True) (v := .int .i64 0) (Or.inl ⟨by rfl, fun w' hw' => by go_simp⟩) trivial ?_
    simp only [AP]
    refine wpSeq_yield (S := fun _ => True) (v := .bool true) (Or.inl ⟨by rfl, fun w' hw' => by (go_simp; try omega)⟩) trivial ?_
    simp only [AP]
    refine wpSeq_nil ?_
    refine (by assumption : ∀ (a : Act) (w : World), _ → _) _ _ ?_
    go_upto_region 2 with fail
    rename_i aK
    refine wp_region_seq ?_
    refine wpSeq_wp rfl (wp_make32 _ _ rfl rfl rfl ?_)
    intro w2 S1 bx
    simp only [AP]
    replace K := K.below' bx
    replace b := b.trans (bx.mono b.size)
    clear bx
    generalize w1.heap.size = gS1 at *
    refine wpSeq_yield (S := fun _ => True) (yieldsIf_assign rfl _ rfl (.slice (some ⟨gS1, 0, none⟩) 32 32) rfl) trivial ?_
    simp only [AP]
    refine wpSeq_nil ?_
    refine (by assumption : ∀ (a : Act) (w : World), _ → _) _ _ ?_
    go_upto_region 3 with fail
    rename_i aK
    refine wp_region_seq ?_
    refine wpSeq_wp rfl (wp_make32 _ _ rfl rfl rfl ?_)
    intro w3 S3 bx
    simp only [AP]
    replace K := K.below' bx
    replace S1 := S1.below bx
    replace b := b.trans (bx.mono b.size)
    clear bx
    generalize w2.heap.size = gS3 at *
    refine wpSeq_yield (S := fun _ => True) (yieldsIf_move rfl _ rfl (.slice (some ⟨gS1, 0, none⟩) 32 32) rfl) trivial ?_
    simp only [AP]
    refine wpSeq_wp rfl ?_
    unfold Oper.wp execOp
    go_simp
    refine (MC.out w3 b _ _ S3 S1).mono ?_
    rintro _ w4 ⟨rfl, b4⟩
    replace K := K.below' b4
    replace b := b.trans (b4.mono b.size)
    clear b4 MC S3 S1
    go_simp
    refine wpSeq_store_row rfl 28 _ _ rfl W.heap.size (Iv .u8 (NI F)) rfl rfl _ _ K (info_k32 F lB.out) (size_32 z32_length lB.out) (u8s_one _) ?_
    simp only [Act.put]
    refine wpSeq_nil ?_
    refine (by assumption : ∀ (a : Act) (w : World), _ → _) _ _ ?_
    have KR := Blk.row K (Iv .u8 (NI F))
    have b9 := below_setRow b (Nat.le_refl _) (Iv .u8 (NI F))
    generalize World.setRow w4 _ _ = w9 at *
    go_wp2
    exact bodyPost_ret (results_cell_row rfl _ _ _ 28 _ (0, 0) _ rfl KR Tryd.underlying28 rfl (info_k32 F lB.out)) rfl ⟨rfl, b9⟩
  · have MC := Lib.hid (fun (w : World) (b : Below W.heap.size W w) (kv : Value) (hk : SB w kv z32) => rmac_any w cuT sqT z32 psk z32_bytes bp kv (.slice p n c) hk (hp.below b) (by decide) (by omega) (R.below b))
    rw [show hmac cuT sqT z32 psk = beginL psk by unfold beginL; rw [if_neg h0]] at MC
    have n0 : ¬ (n : Int) = 0 := by
      intro h
      exact h0 (List.eq_nil_of_length_eq_zero (by omega))
    generalize beginL psk = F at *
    clear hp bp hl R h0 HL hn
    go_enter Tryd.func9, Tryd.ntmps9
    go_upto_region 0 with fail
    rename_i aK
    refine wp_region_seq ?_
    refine wpSeq_wp rfl ?_
    unfold Oper.wp execOp
    go_simp
    refine wpSeq_nil ?_
    refine (by assumption : ∀ (a : Act) (w : World), _ → _) _ _ ?_
    have b := (Below.refl W.heap.size W).alloc (Nat.le_refl _) (.cells (Iv .u8 (NI z32)) 28)
    have K : Blk (W.alloc (.cells (Iv .u8 (NI z32)) 28)) W.heap.size 28 (Iv .u8 (NI z32)) := Blk.new _ _ _
    change Code.wp _ _ _ _ (World.alloc W (.cells (Iv .u8 (NI z32)) 28))
    generalize World.alloc W _ = w1 at *
    go_upto_region 1 with fail
    rename_i aK
    refine wp_region_seq ?_
    refine wpSeq_yield (S := fun _ => True) (yieldsIf_move rfl _ rfl (.slice p n c) rfl) trivial ?_
    simp only [AP]
    refine wpSeq_yield (S := fun _ => True) (v := .int .i64 (n : Int)) (Or.inl ⟨by rfl, fun w' hw' => by go_simp⟩) trivial ?_
    simp only [AP]
    refine wpSeq_yield (S := fun _ => True) (v := .bool false) (Or.inl ⟨by rfl, fun w' hw' => by (go_simp; try omega)⟩) trivial ?_
    simp only [AP]
    refine wpSeq_nil ?_
    refine (by assumption : ∀ (a : Act) (w : World), _ → _) _ _ ?_
    go_upto_region 3 with fail
    rename_i aK
    refine wp_region_seq ?_
    refine wpSeq_wp rfl (wp_make32 _ _ rfl rfl rfl ?_)
    intro w3 S3 bx
    simp only [AP]
    replace K := K.below' bx
    replace b := b.trans (bx.mono b.size)
    clear bx
    generalize w1.heap.size = gS3 at *
    refine wpSeq_yield (S := fun _ => True) (yieldsIf_move rfl _ rfl (.slice p n c) rfl) trivial ?_
    simp only [AP]
    refine wpSeq_wp rfl ?_
    unfold Oper.wp execOp
    go_simp
    refine (MC.out w3 b _ S3).mono ?_
    rintro _ w4 ⟨rfl, b4⟩
    replace K := K.below' b4
    replace b := b.trans (b4.mono b.size)
    clear b4 MC S3
    go_simp
    refine wpSeq_store_row rfl 28 _ _ rfl W.heap.size (Iv .u8 (NI F)) rfl rfl _ _ K (info_k32 F lB.out) (size_32 z32_length lB.out) (u8s_one _) ?_
    simp only [Act.put]
    refine wpSeq_nil ?_
    refine (by assumption : ∀ (a : Act) (w : World), _ → _) _ _ ?_
    have KR := Blk.row K (Iv .u8 (NI F))
    have b9 := below_setRow b (Nat.le_refl _) (Iv .u8 (NI F))
    generalize World.setRow w4 _ _ = w9 at *
    go_wp2
    exact bodyPost_ret (results_cell_row rfl _ _ _ 28 _ (0, 0) _ rfl KR Tryd.underlying28 rfl (info_k32 F lB.out)) rfl ⟨rfl, b9⟩
set_option maxHeartbeats 8000000 in
set_option maxRecDepth 100000 in
theorem derive_c (s c : List Nat) (t : ByteArray) (pc : Option Addr) (nc cc : Nat) (W : World) (R : Ref W cuT sqT) (ls : s.length = 32) (bs : Bytes s) (hc : SB W (.slice pc nc cc) c) (bc : Bytes c) (ht : t.size ≤ 249) (lc : c.length ≤ 255) :
    Calls Tryd.prog 12 #[.agg (Iv .u8 (NI s)), .string t, .slice pc nc cc] W fun e w' => e = .returned (.agg (Iv .u8 (NI (labL s t c 32)))) ∧ Below W.heap.size W w' := by
  have LC := Lib.hid (fun (w : World) (b : Below W.heap.size W w) => rlabel_any w t c (.slice pc nc cc) 32 (hc.below b) ht lc (by decide))
  have lp := purpL_length 0 32 t c
  have EC := Lib.hid (fun (w : World) (b : Below W.heap.size W w) (iv : Value) (hi : SB w iv (purpL 0 32 (bL t) c)) => rexp_any w cuT sqT s (purpL 0 32 (bL t) c) bs (purpL_bytes 0 32 t c (by decide) (by decide) ht lc bc) ls (by omega) iv hi 32 (by decide) (R.below b))
  rw [show expandL cuT sqT s (purpL 0 32 (bL t) c) 32 = labL s t c 32 from rfl] at EC
  have lX := Lib.hid (labL_length s t c 32)
  generalize labL s t c 32 = X at *
  generalize purpL 0 32 (bL t) c = Y at *
  have lS := Lib.hid ls
  clear R bs hc bc ht lc lp ls
  go_enter Tryd.func12, Tryd.ntmps12
  go_upto_region 0 with fail
  rename_i aK
  refine wp_region_seq ?_
  refine wpSeq_wp rfl ?_
  unfold Oper.wp execOp
  go_simp
  refine wpSeq_wp rfl ?_
  unfold Oper.wp execOp
  go_simp
  refine wpSeq_nil ?_
  refine (by assumption : ∀ (a : Act) (w : World), _ → _) _ _ ?_
  generalize hW : World.alloc (World.alloc W _) _ = w1
  obtain ⟨Z, hZ, K0, K1, b⟩ : ∃ Z : Array Value, Z.size = 32 ∧ Blk w1 W.heap.size 28 (Iv .u8 (NI s)) ∧ Blk w1 (W.heap.size + 1) 28 Z ∧ Below W.heap.size W w1 := by
    rw [← hW]
    exact ⟨_, rfl, two_alloc W _ _ _ _⟩
  clear hW
  go_upto_region 1 with fail
  rename_i aK
  refine wp_region_seq ?_
  refine wpSeq_wp rfl ?_
  unfold Oper.wp execOp
  go_simp
  refine wpSeq_nil ?_
  refine (by assumption : ∀ (a : Act) (w : World), _ → _) _ _ ?_
  generalize hW : World.alloc w1 _ = w2
  obtain ⟨Z7, hZ7, K7, bx⟩ : ∃ Z7 : Array Value, Z7.size = 32 ∧ Blk w2 w1.heap.size 28 Z7 ∧ Below w1.heap.size w1 w2 := by
    rw [← hW]
    exact ⟨_, rfl, Blk.new _ _ _, (Below.refl _ _).alloc (Nat.le_refl _) _⟩
  clear hW
  have sz1 := K1.lt
  replace K0 := K0.below' bx
  replace K1 := K1.below' bx
  replace b := b.trans (bx.mono b.size)
  clear bx
  generalize w1.heap.size = g7 at *
  have bd := below_drew (Below.refl w2.heap.size w2)
  replace K0 := K0.below' bd
  replace K1 := K1.below' bd
  replace K7 := K7.below' bd
  replace b := b.trans (bd.mono b.size)
  clear bd
  go_upto_region 2 with fail
  rename_i aK
  refine wp_region_S (S := fun w' => Blk w' W.heap.size 28 (Iv .u8 (NI s))) (by kernel_rfl) ?_
  generalize w2.drew = w3 at *
  have hS := K0
  clear K0
  refine wpAnyS_takeL 0 (v := .slice (some ⟨g7, 0, none⟩) 32 32) rfl (by kernel_rfl) (by kernel_rfl) (by kernel_rfl) (fun _ _ _ H => H) (Or.inl ⟨by rfl, fun w' hw' => by (go_simp)⟩) hS ?_
  simp only [AP]
  refine wpAnyS_takeL 1 (v := .agg (Iv .u8 (NI s))) rfl (by kernel_rfl) (by kernel_rfl) (by kernel_rfl) (fun _ _ _ H => H) (show YieldsIf _ _ _ _ (.agg (Iv .u8 (NI s))) _ from yieldsIf_row_wanted (S := fun w' => Blk w' W.heap.size 28 (Iv .u8 (NI s))) rfl 28 _ rfl W.heap.size rfl 28 _ _ (fun _ h => h) Tryd.underlying28 rfl (info_k32 s lS.out)) hS ?_
  simp only [AP]
  refine wpAnyS_takeL 2 (v := .string t) rfl (by kernel_rfl) (by kernel_rfl) (by kernel_rfl) (fun _ _ _ H => H) (yieldsIf_move rfl _ rfl (.string t) rfl) hS ?_
  simp only [AP]
  refine wpAnyS_takeL 3 (v := .slice pc nc cc) rfl (by kernel_rfl) (by kernel_rfl) (by kernel_rfl) (fun _ _ _ H => H) (yieldsIf_move rfl _ rfl (.slice pc nc cc) rfl) hS ?_
  simp only [AP]
  refine gstep 4 rfl rfl (by kernel_rfl) ?_
  unfold Oper.wp execOp
  go_simp
  refine (LC.out w3 b).mono ?_
  rintro _ w4 ⟨v4, rfl, S4, b4⟩
  replace hS := hS.below' b4
  replace K1 := K1.below' b4
  replace K7 := K7.below' b4
  replace b := b.trans (b4.mono b.size)
  clear b4 LC
  refine ⟨hS, ?_⟩
  refine gstep 5 rfl rfl (by kernel_rfl) ?_
  unfold Oper.wp execOp
  go_simp
  refine (EC.out w4 b v4 S4).mono ?_
  rintro _ w5 ⟨v5, rfl, S5, b5⟩
  replace hS := hS.below' b5
  replace K1 := K1.below' b5
  replace K7 := K7.below' b5
  replace b := b.trans (b5.mono b.size)
  clear b5 EC S4
  refine ⟨hS, ?_⟩
  refine gstep 6 rfl rfl (by kernel_rfl) (wp_copy_any _ _ rfl g7 0 32 32 rfl v5 X 28 rfl S5 Z7 K7 (by rw [lX.out]; exact Nat.le_refl _) (by omega) ?_)
  intro w6 K6 G6
  rw [putV_full Z7 X (by rw [hZ7, lX.out])] at K6
  have hS6 : Blk w6 W.heap.size 28 (Iv .u8 (NI s)) := (G6.block _ hS.lt (fun e => by have := Option.some.inj e; omega)).trans hS
  have K16 : Blk w6 (W.heap.size + 1) 28 Z := (G6.block _ K1.lt (fun e => by have := Option.some.inj e; omega)).trans K1
  have b6 := below_grown' b G6 (fun k e => by have := Option.some.inj e; omega) b.size
  refine ⟨hS6, ?_⟩
  simp only [goInt, AP]
  clear hS hS6 K1 K7 b G6 S5
  refine wpAnyS_done (by kernel_rfl) ?_ _
  refine (by assumption : ∀ (a : Act) (w : World), _ → _) _ _ ?_
  go_upto_region 3 with fail
  rename_i aK
  refine wp_region_seq ?_
  refine wpSeq_yield (S := fun w' => w' = w6) (show YieldsIf _ _ _ _ (.agg (Iv .u8 (NI X))) _ from yieldsIf_row_wanted (S := fun w' => w' = w6) rfl 28 _ rfl g7 rfl 28 _ _ (fun _ h => h ▸ K6) Tryd.underlying28 rfl (info_k32 X lX.out)) rfl ?_
  simp only [AP]
  refine wpSeq_store_row rfl 28 _ _ rfl (W.heap.size + 1) (Iv .u8 (NI X)) rfl rfl _ _ K16 (info_k32 X lX.out) (by rw [Iv_size, NI_length, lX.out]; exact hZ) (u8s_one _) ?_
  simp only [Act.put]
  refine wpSeq_nil ?_
  refine (by assumption : ∀ (a : Act) (w : World), _ → _) _ _ ?_
  have KR := Blk.row K16 (Iv .u8 (NI X))
  have b9 := below_setRow b6 (Nat.le_succ _) (Iv .u8 (NI X))
  generalize World.setRow w6 _ _ = w9 at *
  go_wp2
  exact bodyPost_ret (results_cell_row rfl _ _ _ 28 _ (0, 0) _ rfl KR Tryd.underlying28 rfl (info_k32 X lX.out)) rfl ⟨rfl, b9⟩
set_option maxHeartbeats 8000000 in
set_option maxRecDepth 100000 in
theorem rfin_c (s x : List Nat) (ls : s.length = 32) (bs : Bytes s) (lx : x.length = 32) (bx : Bytes x) (W : World) (R : Ref W cuT sqT) :
    Calls Tryd.prog 19 #[.agg (Iv .u8 (NI s)), .agg (Iv .u8 (NI x))] W fun e w' => e = .returned (.agg (Iv .u8 (NI (finL s x)))) ∧ Below W.heap.size W w' := by
  have KC := Lib.hid (fun (w : World) (b : Below W.heap.size W w) => derive_c s [] finS none 0 0 w (R.below b) ls bs (SB.nil w none 0) Bytes.nil (by decide) (Nat.zero_le _))
  have SC := Lib.hid (fun (w : World) (b : Below W.heap.size W w) (kv pv : Value) (hk : SB w kv (labL s finS [] 32)) (hp : SB w pv x) => rmac_any w cuT sqT (labL s finS [] 32) x (labL_bytes _ _ _ _) bx kv pv hk hp (by rw [labL_length]; decide) (by omega) (R.below b))
  rw [show hmac cuT sqT (labL s finS [] 32) x = finL s x from rfl] at SC
  have lK := Lib.hid (labL_length s finS [] 32)
  have lF := Lib.hid (finL_length s x)
  generalize finL s x = F at *
  generalize labL s finS [] 32 = Y at *
  have lS := Lib.hid ls
  have lX := Lib.hid lx
  clear R bs bx ls lx
  go_enter Tryd.func19, Tryd.ntmps19
  go_upto_region 0 with fail
  rename_i aK
  refine wp_region_seq ?_
  refine wpSeq_wp rfl ?_
  unfold Oper.wp execOp
  go_simp
  refine wpSeq_wp rfl ?_
  unfold Oper.wp execOp
  go_simp
  refine wpSeq_wp rfl ?_
  unfold Oper.wp execOp
  go_simp
  refine wpSeq_nil ?_
  refine (by assumption : ∀ (a : Act) (w : World), _ → _) _ _ ?_
  generalize hW : World.alloc (World.alloc (World.alloc W _) _) _ = w1
  obtain ⟨Z, hZ, K0, K1, K2, b⟩ : ∃ Z : Array Value, Z.size = 32 ∧ Blk w1 W.heap.size 28 (Iv .u8 (NI s)) ∧ Blk w1 (W.heap.size + 1) 28 (Iv .u8 (NI x)) ∧ Blk w1 (W.heap.size + 2) 28 Z ∧ Below W.heap.size W w1 := by
    rw [← hW]
    exact ⟨_, rfl, three_alloc W _ _ _ _ _ _⟩
  clear hW
  go_upto_region 1 with fail
  rename_i aK
  refine wp_region_seq ?_
  refine wpSeq_yield (S := fun w' => w' = w1) (show YieldsIf _ _ _ _ (.agg (Iv .u8 (NI s))) _ from yieldsIf_row_wanted (S := fun w' => w' = w1) rfl 28 _ rfl W.heap.size rfl 28 _ _ (fun _ h => h ▸ K0) Tryd.underlying28 rfl (info_k32 s lS.out)) rfl ?_
  simp only [AP]
  refine wpSeq_wp rfl ?_
  unfold Oper.wp execOp
  go_simp
  refine (KC.out w1 b).mono ?_
  rintro _ w2 ⟨rfl, b2⟩
  replace K1 := K1.below' b2
  replace K2 := K2.below' b2
  replace b := b.trans (b2.mono b.size)
  clear b2 KC K0
  go_simp
  refine wpSeq_wp rfl ?_
  unfold Oper.wp execOp
  go_simp
  refine wpSeq_store_row rfl 28 _ _ rfl w2.heap.size (Iv .u8 (NI Y)) rfl rfl _ _ (Blk.new w2 _ _) (info_k32 Y lK.out) (size_32 (rfl : (List.replicate 32 0).length = 32) lK.out) (u8s_one _) ?_
  simp only [Act.put]
  refine wpSeq_nil ?_
  refine (by assumption : ∀ (a : Act) (w : World), _ → _) _ _ ?_
  generalize hwx : World.setRow _ w2.heap.size _ = w3
  have FX : Blk w3 w2.heap.size 28 (Iv .u8 (NI Y)) ∧ Below w2.heap.size w2 w3 := by
    rw [← hwx]
    exact one_row _ _ _ _
  clear hwx
  obtain ⟨KY, bx⟩ := FX
  replace K1 := K1.below' bx
  replace K2 := K2.below' bx
  replace b := b.trans (bx.mono b.size)
  clear bx
  have bd := below_drew (Below.refl w3.heap.size w3)
  replace K1 := K1.below' bd
  replace K2 := K2.below' bd
  replace KY := KY.below' bd
  replace b := b.trans (bd.mono b.size)
  clear bd
  have sz := b.size
  go_upto_region 2 with fail
  refine wp_region_S (S := fun _ => True) (by kernel_rfl) ?_
  generalize w3.drew = w4 at *
  have hS : True := trivial
  have C1 := sb_key K1 lX.out
  have CY := sb_key KY lK.out
  clear K1 KY
  obtain ⟨gn, hgn⟩ : ∃ k, w2.heap.size = k := ⟨_, rfl⟩
  rw [hgn] at CY ⊢
  clear hgn
  refine wpAnyS_takeL 0 (v := .slice (some ⟨gn, 0, none⟩) 32 32) rfl (by kernel_rfl) (by kernel_rfl) (by kernel_rfl) (fun _ _ _ H => H) (Or.inl ⟨by rfl, fun w' hw' => by (go_simp)⟩) hS ?_
  simp only [AP]
  refine wpAnyS_takeL 1 (v := .slice (some ⟨W.heap.size + 1, 0, none⟩) 32 32) rfl (by kernel_rfl) (by kernel_rfl) (by kernel_rfl) (fun _ _ _ H => H) (Or.inl ⟨by rfl, fun w' hw' => by (go_simp)⟩) hS ?_
  simp only [AP]
  refine gstep 2 rfl rfl (by kernel_rfl) ?_
  unfold Oper.wp execOp
  go_simp
  refine (SC.out w4 b _ _ CY C1).mono ?_
  rintro _ w6 ⟨rfl, b6⟩
  replace K2 := K2.below' b6
  replace b := b.trans (b6.mono b.size)
  clear b6 SC CY C1
  refine gstep 3 rfl rfl (by kernel_rfl) ?_
  refine wp_store_row 28 _ _ rfl (W.heap.size + 2) (Iv .u8 (NI F)) rfl rfl 28 _ K2 (info_k32 F lF.out) (by rw [Iv_size, NI_length, lF.out]; exact hZ) (Iv_one _ _) ?_
  refine ⟨trivial, ?_⟩
  simp only [Act.put]
  have KR := K2.row (Iv .u8 (NI F))
  have b9 := below_setRow b (by omega : W.heap.size ≤ W.heap.size + 2) (Iv .u8 (NI F))
  generalize World.setRow w6 _ _ = w9 at *
  clear K2 b
  refine wpAnyS_done (by kernel_rfl) ?_ _
  refine (by assumption : ∀ (a : Act) (w : World), _ → _) _ _ ?_
  go_wp2
  exact bodyPost_ret (results_cell_row rfl _ _ _ 28 _ (0, 0) _ rfl KR Tryd.underlying28 rfl (info_k32 F lF.out)) rfl ⟨rfl, b9⟩
end Go.Proofs.YtdmhngkedgkndaaDoor
