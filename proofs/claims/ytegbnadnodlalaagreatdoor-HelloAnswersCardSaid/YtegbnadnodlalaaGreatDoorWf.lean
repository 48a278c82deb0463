/- The program's Params and Answer (printed by gen14/wf.py). -/
import Derived.Test.YtegbnadnodlalaaGreatDoorE7b0Wa
import Derived.Test.YtegbnadnodlalaaGreatDoorYb0Rf
import Derived.Test.YtegbnadnodlalaaGreatDoorE3c0E4a
namespace Go.Proofs.YtegbnadnodlalaaGreatDoor
open Go.RowKit
theorem su_four (w : World) (a b c d : Nat) (t : TypeId) : SU (w.alloc (.cells #[.int .u64 ((a : Nat) : Int), .int .u64 ((b : Nat) : Int), .int .u64 ((c : Nat) : Int), .int .u64 ((d : Nat) : Int)] t)) (.slice (some ⟨w.heap.size, 0, none⟩) 4 4) [a, b, c, d] := by
 have K := Blk.new w t #[.int .u64 ((a : Nat) : Int), .int .u64 ((b : Nat) : Int), .int .u64 ((c : Nat) : Int), .int .u64 ((d : Nat) : Int)]
 refine ⟨_, _, rfl, Nat.le_refl _, Or.inr ⟨_, _, rfl, ⟨fun i hi => ?_, K.lt⟩⟩⟩
 rw [Nat.zero_add, K.cell]
 match i, hi with
 | 0, _ => rfl
 | 1, _ => rfl
 | 2, _ => rfl
 | 3, _ => rfl
 | n + 4, h => exact absurd h (by simp only [List.length_cons, List.length_nil]; omega)
theorem putO_four (a b c d : Nat) : putO [] [a, b, c, d] = if bigP a b c d then none else some (parB a b c d) := by
 by_cases h : bigP a b c d
 ·
  rw [if_pos h]
  unfold bigP at h
  rcases h with h | h | h | h
  · exact putO_none 0 (by simp) (by simp only [List.getElem_cons_zero]; omega)
  · exact putO_none 1 (by simp) (by simp only [List.getElem_cons_succ, List.getElem_cons_zero]; omega)
  · exact putO_none 2 (by simp) (by simp only [List.getElem_cons_succ, List.getElem_cons_zero]; omega)
  · exact putO_none 3 (by simp) (by simp only [List.getElem_cons_succ, List.getElem_cons_zero]; omega)
 ·
  rw [if_neg h]
  unfold bigP at h
  rw [putO_some (fun n hn => by simp only [List.mem_cons, List.not_mem_nil, or_false] at hn; omega)]
  simp only [vputs_cons, parB, List.nil_append]
  rw [show vputs [] = [] from rfl, List.append_nil]
theorem parF_put (a b c d : Nat) : (if (putO [] [a, b, c, d]).isSome then 0 else 2) = ((parF a b c d).1 : Int) ∧ (putO [] [a, b, c, d]).getD [] = (parF a b c d).2 := by
 rw [putO_four]
 unfold parF
 by_cases h : bigP a b c d
 ·
  rw [if_pos h, if_pos h]
  exact ⟨rfl, rfl⟩
 ·
  rw [if_neg h, if_neg h]
  exact ⟨rfl, rfl⟩
set_option maxHeartbeats 8000000 in
set_option maxRecDepth 100000 in
theorem hparams_c (a b c d : Nat) (ha : a < 18446744073709551616) (hb : b < 18446744073709551616) (hc : c < 18446744073709551616) (hd : d < 18446744073709551616) (W : World) :
  Calls Tryz.prog 7 #[.agg (parV a b c d)] W fun e w' => ∃ v, e = .returned (.tuple #[v, .int .i64 ((parF a b c d).1 : Int)]) ∧ OwL W.heap.size w' v (parF a b c d).2 ∧ Below W.heap.size W w' := by
 have PC := fun (w : World) (p : Option Addr) (h : SU w (.slice p 4 4) [a, b, c, d]) => To.put_m [] [a, b, c, d] _ none p 0 4 0 4 (fun x hx => by cases hx) (fun x hx => by simp only [List.mem_cons, List.not_mem_nil, or_false] at hx; omega) (by decide) (by decide) rfl w (SB.nil w none 0) h
 rw [(parF_put a b c d).1, (parF_put a b c d).2] at PC
 replace PC := Lib.hid PC
 generalize parF a b c d = F at *
 have S4 := Lib.hid (fun (w : World) (t : TypeId) => su_four w a b c d t)
 clear ha hb hc hd
 go_enter Tryz.func7, Tryz.ntmps7
 go_upto_region 0 with fail
 rename_i aK
 refine wp_region_seq ?_
 refine wpSeq_wp rfl ?_
 unfold Oper.wp execOp
 go_simp
 refine sas (.slice none 0 0) rfl rfl rfl ?_
 simp only [AP]
 refine sas (.int .i64 0) rfl rfl rfl ?_
 simp only [AP]
 refine wpSeq_nil ?_
 refine aK _ _ ?_
 clear aK
 have K0 := Blk.new W 28 (parV a b c d)
 have b0 := (Below.refl W.heap.size W).alloc (Nat.le_refl _) (.cells (parV a b c d) 28)
 generalize hW : World.alloc W _ = w1 at *
 clear hW
 have q0 : w1.cell? ⟨W.heap.size, 0, none⟩ = some (.int .u64 (a : Int)) := K0.cell 0
 have q1 : w1.cell? ⟨W.heap.size, 1, none⟩ = some (.int .u64 (b : Int)) := K0.cell 1
 have q2 : w1.cell? ⟨W.heap.size, 2, none⟩ = some (.int .u64 (c : Int)) := K0.cell 2
 have q3 : w1.cell? ⟨W.heap.size, 3, none⟩ = some (.int .u64 (d : Int)) := K0.cell 3
 go_upto_region 1 with fail
 rename_i aK
 refine wp_region_seq ?_
 refine svl (.pointer (some ⟨W.heap.size, 0, none⟩)) (.inl ⟨by rfl, fun w' _ => by go_simp⟩) ?_
 simp only [AP]
 refine wpSeq_yield (S := fun w' => w' = w1) (v := .int .u64 (a : Int)) (Or.inl ⟨by rfl, fun w' hw' => by (rw [hw']; go_simp)⟩) rfl ?_
 simp only [AP]
 refine svl (.pointer (some ⟨W.heap.size, 1, none⟩)) (.inl ⟨by rfl, fun w' _ => by go_simp⟩) ?_
 simp only [AP]
 refine wpSeq_yield (S := fun w' => w' = w1) (v := .int .u64 (b : Int)) (Or.inl ⟨by rfl, fun w' hw' => by (rw [hw']; go_simp)⟩) rfl ?_
 simp only [AP]
 refine svl (.pointer (some ⟨W.heap.size, 2, none⟩)) (.inl ⟨by rfl, fun w' _ => by go_simp⟩) ?_
 simp only [AP]
 refine wpSeq_yield (S := fun w' => w' = w1) (v := .int .u64 (c : Int)) (Or.inl ⟨by rfl, fun w' hw' => by (rw [hw']; go_simp)⟩) rfl ?_
 simp only [AP]
 refine svl (.pointer (some ⟨W.heap.size, 3, none⟩)) (.inl ⟨by rfl, fun w' _ => by go_simp⟩) ?_
 simp only [AP]
 refine wpSeq_yield (S := fun w' => w' = w1) (v := .int .u64 (d : Int)) (Or.inl ⟨by rfl, fun w' hw' => by (rw [hw']; go_simp)⟩) rfl ?_
 simp only [AP]
 refine wpSeq_wp rfl ?_
 unfold Oper.wp execOp
 go_simp
 have S0 := S4.out w1 26
 have b2 := b0.alloc b0.size (.cells #[.int .u64 ((a : Nat) : Int), .int .u64 ((b : Nat) : Int), .int .u64 ((c : Nat) : Int), .int .u64 ((d : Nat) : Int)] 26)
 generalize World.alloc w1 _ = w2 at *
 obtain ⟨g2, hg2⟩ : ∃ g, w1.heap.size = g := ⟨_, rfl⟩
 rw [hg2] at S0 ⊢
 clear hg2 q0 q1 q2 q3 K0 b0 S4
 refine wpSeq_wp rfl ?_
 unfold Oper.wp execOp
 go_simp
 refine (PC.out w2 _ S0).mono ?_
 rintro _ w3 ⟨v, rfl, O3, b3⟩
 have O4 := OwL.mono O3 b2.size
 have b4 := b2.trans (b3.mono b2.size)
 clear PC O3 b3 S0 b2
 go_simp
 refine svl (v) (.inl ⟨by rfl, fun w' _ => by go_simp⟩) ?_
 simp only [AP]
 refine svl (.int .i64 (F.1 : Int)) (.inl ⟨by rfl, fun w' _ => by go_simp⟩) ?_
 simp only [AP]
 refine sas (v) rfl rfl rfl ?_
 simp only [AP]
 refine sas (.int .i64 (F.1 : Int)) rfl rfl rfl ?_
 simp only [AP]
 refine wpSeq_nil ?_
 refine (by assumption : ∀ (a : Act) (w : World), _ → _) _ _ ?_
 go_wp2
 refine bodyPost_ret (results_tmp2 rfl _ _ _) rfl ?_
 exact ⟨_, rfl, O4, b4⟩
theorem ans_rnd {w : World} {g : Nat} {r s : List Nat} {q : Bool} (h : Blk w g 25 (ansV r s q)) : w.rangeAt g 0 (vals r) := cert_range [] (vals r) (vals s ++ ([.bool q] ++ [])) h 0 rfl
theorem ans_sha {w : World} {g : Nat} {r s : List Nat} {q : Bool} (hr : r.length = 32) (h : Blk w g 25 (ansV r s q)) : w.rangeAt g 32 (vals s) := cert_range (vals r) (vals s) ([.bool q] ++ []) h 32 (by simp [vals_length, hr])
theorem ans_psk {w : World} {g : Nat} {r s : List Nat} {q : Bool} (hr : r.length = 32) (hs : s.length = 32) (h : Blk w g 25 (ansV r s q)) : w.cell? ⟨g, 64, none⟩ = some (.bool q) := by
 rw [h.cell, ansV, ansL, List.getElem?_toArray, List.getElem?_append_right (by rw [vals_length, hr]; decide), List.getElem?_append_right (by rw [vals_length, vals_length, hr, hs]; decide), vals_length, vals_length, hr, hs]
 rfl
theorem ans_flat (r s : List Nat) (q : Bool) : [r, s, [if q then 1 else 0]].flatten = ansB r s q := by simp [ansB]
set_option maxHeartbeats 8000000 in
set_option maxRecDepth 100000 in
theorem hanswer_c (r s : List Nat) (q : Bool) (lr : r.length = 32) (ls : s.length = 32) (W : World) :
  Calls Tryz.prog 5 #[.agg (ansV r s q)] W fun e w' => ∃ v, e = .returned v ∧ OwL W.heap.size w' v (msgB 2 (ansB r s q)) ∧ Below W.heap.size W w' := by
 have MC := fun (p : Option Addr) (w : World) (h : SP w (.slice p 3 3) [r, s, [if q then 1 else 0]]) => message_c 2 [r, s, [if q then 1 else 0]] p 3 3 (by rw [ans_flat]; simp only [ansB, List.length_append, List.length_cons, List.length_nil, lr, ls]; omega) w h (by simp)
 rw [ans_flat] at MC
 generalize msgB 2 (ansB r s q) = M at *
 have KR := Lib.hid (fun (w : World) (h : Blk w W.heap.size 25 (ansV r s q)) => show SB w (.slice (some ⟨W.heap.size, 0, none⟩) 32 32) r from SB.of_ba' (ba_range (ans_rnd h) h.lt) lr.symm (by omega))
 have KS := Lib.hid (fun (w : World) (h : Blk w W.heap.size 25 (ansV r s q)) => show SB w (.slice (some ⟨W.heap.size, 32, none⟩) 32 32) s from SB.of_ba' (ba_range (ans_sha lr h) h.lt) ls.symm (by omega))
 have KP := Lib.hid (fun (w : World) (h : Blk w W.heap.size 25 (ansV r s q)) => ans_psk lr ls h)
 generalize ansV r s q = CV at *
 replace MC := Lib.hid MC
 clear lr ls
 go_enter Tryz.func5, Tryz.ntmps5
 go_upto_region 0 with fail
 rename_i aK
 refine wp_region_seq ?_
 refine wpSeq_wp rfl ?_
 unfold Oper.wp execOp
 go_simp
 refine sas (.slice none 0 0) rfl rfl rfl ?_
 simp only [AP]
 refine wpSeq_nil ?_
 refine aK _ _ ?_
 clear aK
 have K0 := Blk.new W 25 CV
 have b0 := (Below.refl W.heap.size W).alloc (Nat.le_refl _) (.cells CV 25)
 generalize hW : World.alloc W _ = w1 at *
 clear hW
 have q64 : w1.cell? ⟨W.heap.size, 64, none⟩ = some (.bool q) := KP.out w1 K0
 clear KP
 go_upto_region 1 with fail
 rename_i aK
 refine wp_region_seq ?_
 refine sas (.int .u8 0) rfl rfl rfl ?_
 simp only [AP]
 refine wpSeq_nil ?_
 refine aK _ _ ?_
 clear aK
 cases q with
 | true =>
  simp only [if_true, if_false, Bool.false_eq_true] at MC
  go_upto_region 2 with fail
  rename_i aK
  refine wp_region_seq ?_
  refine svl (.pointer (some ⟨W.heap.size, 64, none⟩)) (.inl ⟨by rfl, fun w' _ => by (go_simp)⟩) ?_
  simp only [AP]
  refine wpSeq_yield (S := fun w' => w' = w1) (v := .bool true) (Or.inl ⟨by rfl, fun w' hw' => by (rw [hw']; go_simp)⟩) rfl ?_
  simp only [AP]
  refine wpSeq_nil ?_
  refine (by assumption : ∀ (a : Act) (w : World), _ → _) _ _ ?_
  go_upto_region 3 with fail
  rename_i aK
  refine wp_region_seq ?_
  refine sas (.int .u8 1) rfl rfl rfl ?_
  simp only [AP]
  refine wpSeq_nil ?_
  refine (by assumption : ∀ (a : Act) (w : World), _ → _) _ _ ?_
  have bd := below_drew (Below.refl w1.heap.size w1)
  replace K0 := K0.below' bd
  replace b0 := b0.trans (bd.mono b0.size)
  clear bd q64
  go_upto_region 4 with fail
  rename_i aK
  refine wp_region_S (S := fun w' => Blk w' W.heap.size 25 CV) (by kernel_rfl) ?_
  generalize w1.drew = w2 at *
  have hS := K0
  refine wpAnyS_takeL 0 (v := .pointer (some ⟨W.heap.size, 0, none⟩)) rfl (by kernel_rfl) (by kernel_rfl) (by kernel_rfl) (fun _ _ _ H => H) (Or.inl ⟨by rfl, fun w' hw' => by (go_simp)⟩) hS ?_
  simp only [AP]
  refine wpAnyS_takeL 1 (v := .slice (some ⟨W.heap.size, 0, none⟩) 32 32) rfl (by kernel_rfl) (by kernel_rfl) (by kernel_rfl) (fun _ _ _ H => H) (Or.inl ⟨by rfl, fun w' hw' => by (go_simp)⟩) hS ?_
  simp only [AP]
  refine wpAnyS_takeL 2 (v := .pointer (some ⟨W.heap.size, 32, none⟩)) rfl (by kernel_rfl) (by kernel_rfl) (by kernel_rfl) (fun _ _ _ H => H) (Or.inl ⟨by rfl, fun w' hw' => by (go_simp)⟩) hS ?_
  simp only [AP]
  refine wpAnyS_takeL 3 (v := .slice (some ⟨W.heap.size, 32, none⟩) 32 32) rfl (by kernel_rfl) (by kernel_rfl) (by kernel_rfl) (fun _ _ _ H => H) (Or.inl ⟨by rfl, fun w' hw' => by (go_simp)⟩) hS ?_
  simp only [AP]
  refine wpAnyS_takeL 4 (v := .int .u8 1) rfl (by kernel_rfl) (by kernel_rfl) (by kernel_rfl) (fun _ _ _ H => H) (yieldsIf_move rfl _ rfl (.int .u8 1) rfl) hS ?_
  simp only [AP]
  clear hS
  refine gstep 5 rfl rfl (by kernel_rfl) ?_
  unfold Oper.wp execOp
  go_simp
  have O1 := (OwL.new w2.heap.size w2 [1] (Nat.le_refl _) (by simp only [maxLen, List.length_cons, List.length_nil]; omega)).sb
  have b1 := (Below.refl w2.heap.size w2).alloc (Nat.le_refl _) (.cells (vals [1]).toArray 5)
  change SB (World.alloc w2 (.cells #[.int .u8 1] 5)) (.slice (some ⟨w2.heap.size, 0, none⟩) 1 1) [1] at O1
  change Below w2.heap.size w2 (World.alloc w2 (.cells #[.int .u8 1] 5)) at b1
  generalize World.alloc w2 _ = w3 at *
  obtain ⟨g1, hg1⟩ : ∃ g, w2.heap.size = g := ⟨_, rfl⟩
  replace K0 := K0.below' b1
  replace b0 := b0.trans (b1.mono b0.size)
  rw [hg1] at O1 ⊢
  clear hg1 b1
  refine ⟨K0, ?_⟩
  refine gstep 6 rfl rfl (by kernel_rfl) ?_
  refine wq_three _ _ _ rfl _ _ _ rfl rfl rfl _ _ _ (KR.out w3 K0) (KS.out w3 K0) O1 ?_
  intro g5 ww SL b5
  simp only [AP]
  replace K0 := K0.below' b5
  replace b0 := b0.trans (b5.mono b0.size)
  refine ⟨K0, ?_⟩
  clear b5 O1 KR KS
  refine gstep 7 rfl rfl (by kernel_rfl) ?_
  unfold Oper.wp execOp
  go_simp
  refine (MC.out _ ww SL).mono ?_
  rintro _ wz ⟨vz, rfl, Oz, bz⟩
  replace K0 := K0.below' bz
  replace Oz := Oz.mono b0.size
  replace b0 := b0.trans (bz.mono b0.size)
  have hS := K0
  refine ⟨hS, ?_⟩
  clear MC bz SL K0
  refine wpAnyS_takeL 8 (v := vz) rfl (by kernel_rfl) (by kernel_rfl) (by kernel_rfl) (fun _ _ _ H => H) (yieldsIf_assign rfl _ rfl (vz) rfl) hS ?_
  simp only [AP]
  refine wpAnyS_done (by kernel_rfl) ?_ _
  refine aK _ _ ?_
  clear aK
  go_wp2
  go_ret
  exact ⟨_, rfl, Oz, b0⟩
 | false =>
  simp only [if_true, if_false, Bool.false_eq_true] at MC
  go_upto_region 2 with fail
  rename_i aK
  refine wp_region_seq ?_
  refine svl (.pointer (some ⟨W.heap.size, 64, none⟩)) (.inl ⟨by rfl, fun w' _ => by (go_simp)⟩) ?_
  simp only [AP]
  refine wpSeq_yield (S := fun w' => w' = w1) (v := .bool false) (Or.inl ⟨by rfl, fun w' hw' => by (rw [hw']; go_simp)⟩) rfl ?_
  simp only [AP]
  refine wpSeq_nil ?_
  refine (by assumption : ∀ (a : Act) (w : World), _ → _) _ _ ?_
  have bd := below_drew (Below.refl w1.heap.size w1)
  replace K0 := K0.below' bd
  replace b0 := b0.trans (bd.mono b0.size)
  clear bd q64
  go_upto_region 4 with fail
  rename_i aK
  refine wp_region_S (S := fun w' => Blk w' W.heap.size 25 CV) (by kernel_rfl) ?_
  generalize w1.drew = w2 at *
  have hS := K0
  refine wpAnyS_takeL 0 (v := .pointer (some ⟨W.heap.size, 0, none⟩)) rfl (by kernel_rfl) (by kernel_rfl) (by kernel_rfl) (fun _ _ _ H => H) (Or.inl ⟨by rfl, fun w' hw' => by (go_simp)⟩) hS ?_
  simp only [AP]
  refine wpAnyS_takeL 1 (v := .slice (some ⟨W.heap.size, 0, none⟩) 32 32) rfl (by kernel_rfl) (by kernel_rfl) (by kernel_rfl) (fun _ _ _ H => H) (Or.inl ⟨by rfl, fun w' hw' => by (go_simp)⟩) hS ?_
  simp only [AP]
  refine wpAnyS_takeL 2 (v := .pointer (some ⟨W.heap.size, 32, none⟩)) rfl (by kernel_rfl) (by kernel_rfl) (by kernel_rfl) (fun _ _ _ H => H) (Or.inl ⟨by rfl, fun w' hw' => by (go_simp)⟩) hS ?_
  simp only [AP]
  refine wpAnyS_takeL 3 (v := .slice (some ⟨W.heap.size, 32, none⟩) 32 32) rfl (by kernel_rfl) (by kernel_rfl) (by kernel_rfl) (fun _ _ _ H => H) (Or.inl ⟨by rfl, fun w' hw' => by (go_simp)⟩) hS ?_
  simp only [AP]
  refine wpAnyS_takeL 4 (v := .int .u8 0) rfl (by kernel_rfl) (by kernel_rfl) (by kernel_rfl) (fun _ _ _ H => H) (yieldsIf_move rfl _ rfl (.int .u8 0) rfl) hS ?_
  simp only [AP]
  clear hS
  refine gstep 5 rfl rfl (by kernel_rfl) ?_
  unfold Oper.wp execOp
  go_simp
  have O1 := (OwL.new w2.heap.size w2 [0] (Nat.le_refl _) (by simp only [maxLen, List.length_cons, List.length_nil]; omega)).sb
  have b1 := (Below.refl w2.heap.size w2).alloc (Nat.le_refl _) (.cells (vals [0]).toArray 5)
  change SB (World.alloc w2 (.cells #[.int .u8 0] 5)) (.slice (some ⟨w2.heap.size, 0, none⟩) 1 1) [0] at O1
  change Below w2.heap.size w2 (World.alloc w2 (.cells #[.int .u8 0] 5)) at b1
  generalize World.alloc w2 _ = w3 at *
  obtain ⟨g1, hg1⟩ : ∃ g, w2.heap.size = g := ⟨_, rfl⟩
  replace K0 := K0.below' b1
  replace b0 := b0.trans (b1.mono b0.size)
  rw [hg1] at O1 ⊢
  clear hg1 b1
  refine ⟨K0, ?_⟩
  refine gstep 6 rfl rfl (by kernel_rfl) ?_
  refine wq_three _ _ _ rfl _ _ _ rfl rfl rfl _ _ _ (KR.out w3 K0) (KS.out w3 K0) O1 ?_
  intro g5 ww SL b5
  simp only [AP]
  replace K0 := K0.below' b5
  replace b0 := b0.trans (b5.mono b0.size)
  refine ⟨K0, ?_⟩
  clear b5 O1 KR KS
  refine gstep 7 rfl rfl (by kernel_rfl) ?_
  unfold Oper.wp execOp
  go_simp
  refine (MC.out _ ww SL).mono ?_
  rintro _ wz ⟨vz, rfl, Oz, bz⟩
  replace K0 := K0.below' bz
  replace Oz := Oz.mono b0.size
  replace b0 := b0.trans (bz.mono b0.size)
  have hS := K0
  refine ⟨hS, ?_⟩
  clear MC bz SL K0
  refine wpAnyS_takeL 8 (v := vz) rfl (by kernel_rfl) (by kernel_rfl) (by kernel_rfl) (fun _ _ _ H => H) (yieldsIf_assign rfl _ rfl (vz) rfl) hS ?_
  simp only [AP]
  refine wpAnyS_done (by kernel_rfl) ?_ _
  refine aK _ _ ?_
  clear aK
  go_wp2
  go_ret
  exact ⟨_, rfl, Oz, b0⟩
end Go.Proofs.YtegbnadnodlalaaGreatDoor
