/- The contract of field.Root, by value: a root, if there is one. -/
import Derived.Test.YtegbnadnodlalaaGreatDoorGNb0GNc
import Derived.Test.YtegbnadnodlalaaGreatDoorLl0GHa
namespace Go.Proofs.YtegbnadnodlalaaGreatDoor
open Go.RowKit
theorem leTo_byteAt (n : Nat) : ∀ k, leTo (byteAt n) k = n % 256 ^ k
 | 0 => by simp [leTo, Nat.mod_one]
 | k + 1 => by
  unfold leTo
  rw [leTo_byteAt n k, Nat.pow_succ, Nat.mod_mul]
  unfold byteAt
  rw [Nat.mul_comm (256 ^ k)]
theorem keyOf_bytes (n : Nat) : Bytes32 (keyOf n) (byteAt n) :=
 ⟨keyOf_length n, fun i h => by simp [keyOf, h], fun i => Nat.mod_lt _ (by decide)⟩
theorem key_of_bytes {l : List Int} {f : Nat → Nat} (hl : Bytes32 l f) : l = keyOf (leTo f 32) := by
 apply List.ext_getElem (by rw [hl.len, keyOf_length])
 intro i h1 h2
 have h3 : i < 32 := by rw [hl.len] at h1; exact h1
 have h4 := hl.get i h3
 simp [List.getD, h1] at h4
 rw [h4]
 simp only [keyOf, List.getElem_map, List.getElem_range]
 rw [byteAt, leTo_byte f hl.lt 32 i h3]
theorem power_v (a N r : Nat) (w : World) (ha : a < pp) (hN : N < 256 ^ 32) (hr : r = mpow a N) : Calls Tryz.prog 84 #[El a, Key (keyOf N)] w fun e w' => e = .returned (El r) ∧ Below w.heap.size w w' := by
 have h := power_any a _ _ (keyOf_bytes N) w ha
 rw [leTo_byteAt, Nat.mod_eq_of_lt hN, ← hr] at h
 exact h
theorem ones_v (lo hi N : Nat) (w : World) (hlo : lo < 256) (hhi : hi < 256) (hN : leTo (onesOf lo hi) 32 = N) : Calls Tryz.prog 85 #[.int .u8 lo, .int .u8 hi] w fun e w' => e = .returned (Key (keyOf N)) ∧ Below w.heap.size w w' := by
 have h := ones_any lo hi w
 rw [key_of_bytes (ones_bytes lo hi hlo hhi), hN] at h
 exact h
theorem results_cell_tmp {P : Program} {fn : Func} {p q : Tmp} {ty : TypeId} (h : fn.results = #[.cell p ty, .tmp q]) (tmps : Array Value) (w : World) (g : Nat) (t : TypeId) (cs : Array Value) (fr : Nat × Nat) (d : TypeDesc) (v : Value)
  (hp : tmps.getD p undef = .pointer (some ⟨g, 0, none⟩)) (hg : w.heap[g]? = some (.cells cs t fr))
  (hu : P.underlying ty = some d) (hd : (match d with | .struct _ | .array _ _ => true | _ => false) = true) (hi : (P.info? ty).map (·.size) = some cs.size) (hq : tmps.getD q undef = v) :
  (results fn tmps).run P w = .ok (.tuple #[.agg cs, v]) w := by
 have hp' : tmps[p]?.getD undef = .pointer (some ⟨g, 0, none⟩) := by simpa using hp
 have hq' : tmps[q]?.getD undef = v := by simpa using hq
 simp [results, h, hp', hq', asAddr, run_loadVar_row w g t ty cs fr d hg hu hd hi]
theorem set_self_true (l : Array Bool) (z : Nat) : (l.setIfInBounds z true).getD z true = true := by
 rcases Nat.lt_or_ge z l.size with h | h
 · exact getD_set_self h true
 · simp [Array.getElem?_eq_none h]
/-- A whole row stored at operation z. -/
theorem wpAnyZ_store_last {P : Program} {md : Region.Mode} {ops : Array Oper} {Q : Exit → Act → World → Prop} {S : World → Prop} {fuel : Nat} {listed : Array Bool} {a : Act} {w : World} (z : Nat) {oi : Oper} (hi : ops.toList[z]? = some oi) (hr : Region.ready md ops listed = [z]) (hgd : oi.guard = none)
  (ty : TypeId) (x y : Operand) (ho : oi.op = .store ty x y) (g : Nat) (cells : Array Value) (hx : a.eval x = .pointer (some ⟨g, 0, none⟩)) (hy : a.eval y = .agg cells)
  (t : TypeId) (old : Array Value) (hg : Blk w g t old) (hinf : (P.info? ty).map (·.size) = some cells.size) (hold : old.size = cells.size) (h1 : cells.all (·.oneCell') = true)
  (h : wpAnyZ P md ops Q S z fuel (listed.setIfInBounds z true) (a.put oi.dst undef) (w.setRow g cells)) : wpAnyZ P md ops Q S z (fuel + 1) listed a w := by
 refine wpAnyZ_one hr ?_
 unfold wpOp
 rw [← Array.getElem?_toList, hi]
 have hw : Region.wanted oi (yielded ops a.tmps) = true := by simp [Region.wanted, hgd]
 simp only [hw, if_true]
 left
 exact wp_store_row ty x y ho g cells hx hy t old hg hinf hold h1 ⟨fun hf => (by rw [set_self_true] at hf; cases hf), h⟩
/-- A whole row loaded, as the one operation that may come up. -/
theorem wpAnyZ_load_row {P : Program} {md : Region.Mode} {ops : Array Oper} {Q : Exit → Act → World → Prop} {S : World → Prop} {z fuel : Nat} {listed : Array Bool} {a : Act} {w : World} (i : Nat) {oi : Oper} (hi : ops.toList[i]? = some oi) (hr : Region.ready md ops listed = [i]) (hgd : oi.guard = none)
  (ty : TypeId) (x : Operand) (ho : oi.op = .load ty x) (g : Nat) (hx : a.eval x = .pointer (some ⟨g, 0, none⟩)) (t : TypeId) (cs : Array Value) (d : TypeDesc) (hg : Blk w g t cs)
  (hu : P.underlying ty = some d) (hd : (match d with | .struct _ | .array _ _ => true | _ => false) = true) (hinf : (P.info? ty).map (·.size) = some cs.size) (hS : S w)
  (h : wpAnyZ P md ops Q S z fuel (listed.setIfInBounds i true) (a.put oi.dst (.agg cs)) w) : wpAnyZ P md ops Q S z (fuel + 1) listed a w := by
 refine wpAnyZ_one hr ?_
 unfold wpOp
 rw [← Array.getElem?_toList, hi]
 have hw : Region.wanted oi (yielded ops a.tmps) = true := by simp [Region.wanted, hgd]
 simp only [hw, if_true]
 left
 exact wp_load_row ty x ho g hx t cs (0, 0) d hg hu hd hinf ⟨fun _ => hS, h⟩
/-- The result's block, still 0. -/
structure RBlk (w : World) (g : Nat) : Prop where
 blk : Blk w g 83 (El_cells 0)
theorem RBlk.below {w w1 : World} {g : Nat} (h : RBlk w g) (hb : Below w.heap.size w w1) : RBlk w1 g := ⟨h.blk.below' hb⟩
theorem RBlk.drew {w : World} {g : Nat} (h : RBlk w g) : RBlk w.drew g := ⟨h.blk⟩
set_option maxHeartbeats 1000000 in
set_option maxRecDepth 100000 in
theorem rminus_v (I : Nat) (w : World) (hI : IOk I) : Calls Tryz.prog 108 #[] w fun e w' => e = .returned (El I) ∧ Below w.heap.size w w' := by
 obtain ⟨KN, hK⟩ : ∃ k, k = 14474011154664524427946373126085988481658748083205070504932198000989141204987 := ⟨_, rfl⟩
 have hKN : Hid (leTo (onesOf 251 31) 32 = KN) := Lib.hid (by rw [hK]; decide +kernel)
 have lKN : Hid (KN < 256 ^ 32) := Lib.hid (by rw [hK]; decide)
 have hV : Hid (I = mpow 2 KN) := Lib.hid (by rw [hK]; exact hI.val)
 clear hK
 go_enter Tryz.func108, Tryz.ntmps108
 go_wp2_with fail
 have Br := Blk.new w 83 (El_cells 0)
 have hB := (Below.refl w.heap.size w).alloc (Nat.le_refl _) (.cells (El_cells 0) 83)
 refine (small_any 2 _ (by decide)).mono ?_
 rintro e v1 ⟨rfl, b⟩
 replace hB := hB.trans (b.mono hB.size)
 replace Br := Br.below' b
 clear b
 go_wp2_with fail
 refine (ones_v 251 31 KN _ (by decide) (by decide) hKN.out).mono ?_
 rintro e v2 ⟨rfl, b⟩
 replace hB := hB.trans (b.mono hB.size)
 replace Br := Br.below' b
 clear b
 go_wp2_with fail
 refine (power_v 2 KN I _ (by rw [pp_eq]; decide) lKN.out hV.out).mono ?_
 rintro e v3 ⟨rfl, b⟩
 replace hB := hB.trans (b.mono hB.size)
 replace Br := Br.below' b
 clear b
 unfold El
 go_wp2_with (refine wpList_store_row rfl 83 _ _ rfl (w.heap.size) (El_cells I) rfl rfl 83 _ Br (info_El _) rfl (El_one _) ?_)
 exact bodyPost_ret (results_cell_row rfl _ _ _ 83 _ (0, 0) _ rfl (Br.row _) Tryz.underlying83 rfl (info_El _)) rfl ⟨rfl, below_setRow hB (by omega) _⟩
set_option maxHeartbeats 8000000 in
set_option maxRecDepth 100000 in
theorem root_v (I X Y : Nat) (hI : IOk I) (lX : X < pp) (lY : Y < pp) (w : World) :
  Calls Tryz.prog 95 #[El X, El Y] w fun e w' => e = .returned (.tuple #[El (rV I X Y), .bool (rOk X Y)]) ∧ Below w.heap.size w w' := by
 obtain ⟨KN, hK⟩ : ∃ k, k = 7237005577332262213973186563042994240829374041602535252466099000494570602493 := ⟨_, rfl⟩
 have hKN : Hid (leTo (onesOf 253 15) 32 = KN) := Lib.hid (by rw [hK]; decide +kernel)
 have lKN : KN < 256 ^ 32 := by rw [hK]; decide
 obtain ⟨E0, hE0⟩ : ∃ r, r = Y * Y % pp := ⟨_, rfl⟩
 have lE0 : E0 < pp := hE0 ▸ Nat.mod_lt _ pp_pos
 have HE0 := Lib.hid hE0
 clear hE0
 obtain ⟨E1, hE1⟩ : ∃ r, r = E0 * Y % pp := ⟨_, rfl⟩
 have lE1 : E1 < pp := hE1 ▸ Nat.mod_lt _ pp_pos
 have HE1 := Lib.hid hE1
 clear hE1
 obtain ⟨E2, hE2⟩ : ∃ r, r = E1 * E1 % pp := ⟨_, rfl⟩
 have lE2 : E2 < pp := hE2 ▸ Nat.mod_lt _ pp_pos
 have HE2 := Lib.hid hE2
 clear hE2
 obtain ⟨E3, hE3⟩ : ∃ r, r = E2 * Y % pp := ⟨_, rfl⟩
 have lE3 : E3 < pp := hE3 ▸ Nat.mod_lt _ pp_pos
 have HE3 := Lib.hid hE3
 clear hE3
 obtain ⟨E4, hE4⟩ : ∃ r, r = X * E1 % pp := ⟨_, rfl⟩
 have lE4 : E4 < pp := hE4 ▸ Nat.mod_lt _ pp_pos
 have HE4 := Lib.hid hE4
 clear hE4
 obtain ⟨E5, hE5⟩ : ∃ r, r = X * E3 % pp := ⟨_, rfl⟩
 have lE5 : E5 < pp := hE5 ▸ Nat.mod_lt _ pp_pos
 have HE5 := Lib.hid hE5
 clear hE5
 obtain ⟨E6, hE6⟩ : ∃ r, r = mpow E5 KN := ⟨_, rfl⟩
 have lE6 : E6 < pp := hE6 ▸ mpow_lt _ _
 have HE6 := Lib.hid hE6
 clear hE6
 obtain ⟨E7, hE7⟩ : ∃ r, r = E4 * E6 % pp := ⟨_, rfl⟩
 have lE7 : E7 < pp := hE7 ▸ Nat.mod_lt _ pp_pos
 have HE7 := Lib.hid hE7
 clear hE7
 obtain ⟨E8, hE8⟩ : ∃ r, r = E7 * E7 % pp := ⟨_, rfl⟩
 have lE8 : E8 < pp := hE8 ▸ Nat.mod_lt _ pp_pos
 have HE8 := Lib.hid hE8
 clear hE8
 obtain ⟨E9, hE9⟩ : ∃ r, r = E8 * Y % pp := ⟨_, rfl⟩
 have lE9 : E9 < pp := hE9 ▸ Nat.mod_lt _ pp_pos
 have HE9 := Lib.hid hE9
 clear hE9
 have eR : E7 = rRoot X Y := by
  unfold rRoot rY7 rY3
  simp only [HE0.out, HE1.out, HE2.out, HE3.out, HE4.out, HE5.out, HE6.out, HE7.out, HE8.out, hK]
 have eB : E9 = rBack X Y := by
  unfold rBack
  rw [← eR]
  simp only [HE9.out, HE8.out]
 clear hK
 obtain ⟨RV, hRV⟩ : ∃ x, x = rV I X Y := ⟨_, rfl⟩
 obtain ⟨OK, hOK⟩ : ∃ x, x = rOk X Y := ⟨_, rfl⟩
 rw [← hRV, ← hOK]
 unfold rV at hRV
 unfold rOk at hOK
 rw [← eR, ← eB] at hRV
 rw [← eB] at hOK
 have HRV := Lib.hid hRV
 have HOK := Lib.hid hOK
 clear hRV hOK eR eB
 unfold El
 go_enter Tryz.func95, Tryz.ntmps95
 go_upto_region 1 with fail
 generalize hW : World.alloc (World.alloc (World.alloc w _) _) _ = w1
 have hS : Facts [.blk (w.heap.size) 83 (El_cells X), .blk (w.heap.size + 1) 83 (El_cells Y)] w1 := by
  subst hW
  exact Facts.cons (((Blk.new w _ _).alloc _).alloc _) (Facts.cons ((Blk.new' (by simp) _ _).alloc _) Facts.nil)
 have HR : RBlk w1 (w.heap.size + 1 + 1) := by
  subst hW
  exact ⟨Blk.new' (by simp) _ _⟩
 have hB : Below w.heap.size w w1 := by
  subst hW
  exact (((Below.refl w.heap.size w).alloc (Nat.le_refl _) _).alloc (by simp) _).alloc (by simp; omega) _
 clear hW
 replace hS := hS.drew
 replace hB := below_drew hB
 replace HR := HR.drew
 refine wp_region_Z (S := Facts [.blk (w.heap.size) 83 (El_cells X), .blk (w.heap.size + 1) 83 (El_cells Y)]) 6 (by kernel_rfl) ?_
 refine wpAnyZ_takeL 0 rfl (by kernel_rfl) (by kernel_rfl) (by kernel_rfl) (by kernel_rfl) (by kernel_rfl) (fun _ _ _ h => h) (show YieldsIf _ _ _ _ (El Y) _ from yieldsIf_load rfl 83 _ rfl (w.heap.size + 1) rfl 83 _ _ (.tail _ (.head _)) Tryz.underlying83 rfl (info_El _)) hS ?_
 simp only [Act.put, List.setIfInBounds_toArray, List.set_cons_zero, List.set_cons_succ]
 refine wpAnyZ_takeL 1 rfl (by kernel_rfl) (by kernel_rfl) (by kernel_rfl) (by kernel_rfl) (by kernel_rfl) (fun _ _ _ h => h) (show YieldsIf _ _ _ _ (El Y) _ from yieldsIf_load rfl 83 _ rfl (w.heap.size + 1) rfl 83 _ _ (.tail _ (.head _)) Tryz.underlying83 rfl (info_El _)) hS ?_
 simp only [Act.put, List.setIfInBounds_toArray, List.set_cons_zero, List.set_cons_succ]
 refine wpAnyZ_takeL 3 rfl (by kernel_rfl) (by kernel_rfl) (by kernel_rfl) (by kernel_rfl) (by kernel_rfl) (fun _ _ _ h => h) (show YieldsIf _ _ _ _ (El Y) _ from yieldsIf_load rfl 83 _ rfl (w.heap.size + 1) rfl 83 _ _ (.tail _ (.head _)) Tryz.underlying83 rfl (info_El _)) hS ?_
 simp only [Act.put, List.setIfInBounds_toArray, List.set_cons_zero, List.set_cons_succ]
 refine wpAnyZ_jobsL [(⟨2, 12⟩, .is (El E0)), (⟨4, 14⟩, .is (El E1)), (⟨5, 6⟩, .rel (fun v w' => ∃ g, v = .pointer (some ⟨g, 0, none⟩) ∧ Blk w' g 83 (El_cells 0)))] [] 1 _ _ _ (by kernel_rfl) (fun _ _ _ _ _ h => h) ?_ (fun _ _ _ _ _ h => h) (fun _ _ h hb => h.below hb) hS ?_ ?_ ?_
 · exact fun _ _ h => by cases h
 ·
  intro j hj
  simp only [List.map_cons, List.map_nil, List.mem_cons, List.not_mem_nil, or_false] at hj
  rcases hj with rfl | rfl | rfl
  · exact fun _ _ _ h _ => h
  · exact fun _ _ _ h _ => h
  ·
   intro v w1 w2 h hb
   obtain ⟨g, e, H⟩ : ∃ g, v = .pointer (some ⟨g, 0, none⟩) ∧ Blk w1 g 83 (El_cells 0) := h
   exact ⟨g, e, H.below' hb⟩
 ·
  intro j hj
  simp only [List.map_cons, List.map_nil, List.mem_cons, List.not_mem_nil, or_false] at hj
  rcases hj with rfl | rfl | rfl
  ·
   refine job_frame [] (by kernel_rfl) ?_
   show JobAt _ _ _ _ _ _ _
   intro W K hS' hK
   unfold wpOp
   go_simp
   left
   refine (mul_v Y Y E0 _ lY lY HE0.out).mono ?_
   rintro e v ⟨rfl, b⟩
   exact hK _ _ rfl b (fun g hg => ((block_agg _) g hg).elim)
  ·
   refine job_frame [⟨2, 12⟩] (by kernel_rfl) ?_
   show JobAt _ _ _ _ (Act.put _ (some 12) (El E0)) _ _
   simp only [Act.put, List.setIfInBounds_toArray, List.set_cons_zero, List.set_cons_succ]
   intro W K hS' hK
   unfold wpOp
   go_simp
   left
   refine (mul_v E0 Y E1 _ lE0 lY HE1.out).mono ?_
   rintro e v ⟨rfl, b⟩
   exact hK _ _ rfl b (fun g hg => ((block_agg _) g hg).elim)
  ·
   refine job_frame [] (by kernel_rfl) ?_
   show JobAt _ _ _ _ _ _ _
   exact job_alloc 83 (El_cells 0) _ _ rfl rfl rfl (fun W => by go_simp; rfl)
 ·
  intro f W hS2 hB1 hR hF hA
  have e2 : f 2 = (El E0) := hR ⟨2, 12⟩ (by simp)
  have e4 : f 4 = (El E1) := hR ⟨4, 14⟩ (by simp)
  obtain ⟨g5r1, e5, A5⟩ : ∃ g, f 5 = .pointer (some ⟨g, 0, none⟩) ∧ Blk W g 83 (El_cells 0) := hR ⟨5, 6⟩ (by simp)
  have n5 : _ ≤ g5r1 := (hF ⟨5, 6⟩ (by simp) g5r1 (by show blockOf (f 5) = _; rw [e5]; rfl)).1
  clear hA hF hR
  simp only [setAll, putAll, List.map_cons, List.map_nil, List.foldr_cons, List.foldr_nil, Act.put, List.setIfInBounds_toArray, List.set_cons_zero, List.set_cons_succ, e2, e4, e5]
  clear e2 e4 e5
  have hBs := hB1
  replace hB1 := below_setRow hB1 n5 (El_cells E1)
  refine wpAnyZ_store_row 6 rfl (by kernel_rfl) rfl _ _ _ rfl g5r1 (El_cells E1) rfl rfl _ _ A5 (info_El _) rfl (El_one _) (hS.below hB1) ?_
  try simp only [Act.put, List.setIfInBounds_toArray, List.set_cons_zero, List.set_cons_succ]
  replace A5 := A5.row (El_cells E1)
  refine wpAnyZ_done (by kernel_rfl) ?_ _
  replace HR := HR.below hB1
  have hS3 := hS.below hB1
  replace hB := hB.trans (hB1.mono hB.size)
  clear hS hS2 hB1 hBs
  have hS : Facts [.blk (g5r1) 83 (El_cells E1), .blk (w.heap.size) 83 (El_cells X), .blk (w.heap.size + 1) 83 (El_cells Y)] _ := Facts.cons (f := .blk g5r1 83 (El_cells E1)) A5 (hS3)
  clear hS3
  try clear n5
  clear A5
  generalize hWn : World.setRow _ _ _ = Wn at *
  clear hWn
  go_upto_region 2 with fail
  replace hS := hS.drew
  replace hB := below_drew hB
  replace HR := HR.drew
  refine wp_region_Z (S := Facts [.blk (g5r1) 83 (El_cells E1), .blk (w.heap.size) 83 (El_cells X), .blk (w.heap.size + 1) 83 (El_cells Y)]) 6 (by kernel_rfl) ?_
  refine wpAnyZ_takeL 0 rfl (by kernel_rfl) (by kernel_rfl) (by kernel_rfl) (by kernel_rfl) (by kernel_rfl) (fun _ _ _ h => h) (show YieldsIf _ _ _ _ (El E1) _ from yieldsIf_load rfl 83 _ rfl (g5r1) rfl 83 _ _ (.head _) Tryz.underlying83 rfl (info_El _)) hS ?_
  simp only [Act.put, List.setIfInBounds_toArray, List.set_cons_zero, List.set_cons_succ]
  refine wpAnyZ_takeL 1 rfl (by kernel_rfl) (by kernel_rfl) (by kernel_rfl) (by kernel_rfl) (by kernel_rfl) (fun _ _ _ h => h) (show YieldsIf _ _ _ _ (El E1) _ from yieldsIf_load rfl 83 _ rfl (g5r1) rfl 83 _ _ (.head _) Tryz.underlying83 rfl (info_El _)) hS ?_
  simp only [Act.put, List.setIfInBounds_toArray, List.set_cons_zero, List.set_cons_succ]
  refine wpAnyZ_takeL 3 rfl (by kernel_rfl) (by kernel_rfl) (by kernel_rfl) (by kernel_rfl) (by kernel_rfl) (fun _ _ _ h => h) (show YieldsIf _ _ _ _ (El Y) _ from yieldsIf_load rfl 83 _ rfl (w.heap.size + 1) rfl 83 _ _ (.tail _ (.tail _ (.head _))) Tryz.underlying83 rfl (info_El _)) hS ?_
  simp only [Act.put, List.setIfInBounds_toArray, List.set_cons_zero, List.set_cons_succ]
  refine wpAnyZ_jobsL [(⟨2, 17⟩, .is (El E2)), (⟨4, 19⟩, .is (El E3)), (⟨5, 7⟩, .rel (fun v w' => ∃ g, v = .pointer (some ⟨g, 0, none⟩) ∧ Blk w' g 83 (El_cells 0)))] [] 1 _ _ _ (by kernel_rfl) (fun _ _ _ _ _ h => h) ?_ (fun _ _ _ _ _ h => h) (fun _ _ h hb => h.below hb) hS ?_ ?_ ?_
  · exact fun _ _ h => by cases h
  ·
   intro j hj
   simp only [List.map_cons, List.map_nil, List.mem_cons, List.not_mem_nil, or_false] at hj
   rcases hj with rfl | rfl | rfl
   · exact fun _ _ _ h _ => h
   · exact fun _ _ _ h _ => h
   ·
    intro v w1 w2 h hb
    obtain ⟨g, e, H⟩ : ∃ g, v = .pointer (some ⟨g, 0, none⟩) ∧ Blk w1 g 83 (El_cells 0) := h
    exact ⟨g, e, H.below' hb⟩
  ·
   intro j hj
   simp only [List.map_cons, List.map_nil, List.mem_cons, List.not_mem_nil, or_false] at hj
   rcases hj with rfl | rfl | rfl
   ·
    refine job_frame [] (by kernel_rfl) ?_
    show JobAt _ _ _ _ _ _ _
    intro W K hS' hK
    unfold wpOp
    go_simp
    left
    refine (mul_v E1 E1 E2 _ lE1 lE1 HE2.out).mono ?_
    rintro e v ⟨rfl, b⟩
    exact hK _ _ rfl b (fun g hg => ((block_agg _) g hg).elim)
   ·
    refine job_frame [⟨2, 17⟩] (by kernel_rfl) ?_
    show JobAt _ _ _ _ (Act.put _ (some 17) (El E2)) _ _
    simp only [Act.put, List.setIfInBounds_toArray, List.set_cons_zero, List.set_cons_succ]
    intro W K hS' hK
    unfold wpOp
    go_simp
    left
    refine (mul_v E2 Y E3 _ lE2 lY HE3.out).mono ?_
    rintro e v ⟨rfl, b⟩
    exact hK _ _ rfl b (fun g hg => ((block_agg _) g hg).elim)
   ·
    refine job_frame [] (by kernel_rfl) ?_
    show JobAt _ _ _ _ _ _ _
    exact job_alloc 83 (El_cells 0) _ _ rfl rfl rfl (fun W => by go_simp; rfl)
  ·
   intro f W hS2 hB1 hR hF hA
   have e2 : f 2 = (El E2) := hR ⟨2, 17⟩ (by simp)
   have e4 : f 4 = (El E3) := hR ⟨4, 19⟩ (by simp)
   obtain ⟨g5r2, e5, A5⟩ : ∃ g, f 5 = .pointer (some ⟨g, 0, none⟩) ∧ Blk W g 83 (El_cells 0) := hR ⟨5, 7⟩ (by simp)
   have n5 : _ ≤ g5r2 := (hF ⟨5, 7⟩ (by simp) g5r2 (by show blockOf (f 5) = _; rw [e5]; rfl)).1
   clear hA hF hR
   simp only [setAll, putAll, List.map_cons, List.map_nil, List.foldr_cons, List.foldr_nil, Act.put, List.setIfInBounds_toArray, List.set_cons_zero, List.set_cons_succ, e2, e4, e5]
   clear e2 e4 e5
   have hBs := hB1
   replace hB1 := below_setRow hB1 n5 (El_cells E3)
   refine wpAnyZ_store_row 6 rfl (by kernel_rfl) rfl _ _ _ rfl g5r2 (El_cells E3) rfl rfl _ _ A5 (info_El _) rfl (El_one _) (hS.below hB1) ?_
   try simp only [Act.put, List.setIfInBounds_toArray, List.set_cons_zero, List.set_cons_succ]
   replace A5 := A5.row (El_cells E3)
   refine wpAnyZ_done (by kernel_rfl) ?_ _
   replace HR := HR.below hB1
   have hS3 := hS.below hB1
   replace hB := hB.trans (hB1.mono hB.size)
   clear hS hS2 hB1 hBs
   have hS : Facts [.blk (g5r2) 83 (El_cells E3), .blk (g5r1) 83 (El_cells E1), .blk (w.heap.size) 83 (El_cells X), .blk (w.heap.size + 1) 83 (El_cells Y)] _ := Facts.cons (f := .blk g5r2 83 (El_cells E3)) A5 (hS3)
   clear hS3
   try clear n5
   clear A5
   generalize hWn : World.setRow _ _ _ = Wn at *
   clear hWn
   go_upto_region 3 with fail
   replace hS := hS.drew
   replace hB := below_drew hB
   replace HR := HR.drew
   refine wp_region_Z (S := Facts [.blk (g5r2) 83 (El_cells E3), .blk (g5r1) 83 (El_cells E1), .blk (w.heap.size) 83 (El_cells X), .blk (w.heap.size + 1) 83 (El_cells Y)]) 10 (by kernel_rfl) ?_
   refine wpAnyZ_takeL 0 rfl (by kernel_rfl) (by kernel_rfl) (by kernel_rfl) (by kernel_rfl) (by kernel_rfl) (fun _ _ _ h => h) (show YieldsIf _ _ _ _ (El X) _ from yieldsIf_load rfl 83 _ rfl (w.heap.size) rfl 83 _ _ (.tail _ (.tail _ (.head _))) Tryz.underlying83 rfl (info_El _)) hS ?_
   simp only [Act.put, List.setIfInBounds_toArray, List.set_cons_zero, List.set_cons_succ]
   refine wpAnyZ_takeL 1 rfl (by kernel_rfl) (by kernel_rfl) (by kernel_rfl) (by kernel_rfl) (by kernel_rfl) (fun _ _ _ h => h) (show YieldsIf _ _ _ _ (El E1) _ from yieldsIf_load rfl 83 _ rfl (g5r1) rfl 83 _ _ (.tail _ (.head _)) Tryz.underlying83 rfl (info_El _)) hS ?_
   simp only [Act.put, List.setIfInBounds_toArray, List.set_cons_zero, List.set_cons_succ]
   refine wpAnyZ_takeL 3 rfl (by kernel_rfl) (by kernel_rfl) (by kernel_rfl) (by kernel_rfl) (by kernel_rfl) (fun _ _ _ h => h) (show YieldsIf _ _ _ _ (El X) _ from yieldsIf_load rfl 83 _ rfl (w.heap.size) rfl 83 _ _ (.tail _ (.tail _ (.head _))) Tryz.underlying83 rfl (info_El _)) hS ?_
   simp only [Act.put, List.setIfInBounds_toArray, List.set_cons_zero, List.set_cons_succ]
   refine wpAnyZ_takeL 4 rfl (by kernel_rfl) (by kernel_rfl) (by kernel_rfl) (by kernel_rfl) (by kernel_rfl) (fun _ _ _ h => h) (show YieldsIf _ _ _ _ (El E3) _ from yieldsIf_load rfl 83 _ rfl (g5r2) rfl 83 _ _ (.head _) Tryz.underlying83 rfl (info_El _)) hS ?_
   simp only [Act.put, List.setIfInBounds_toArray, List.set_cons_zero, List.set_cons_succ]
   refine wpAnyZ_jobsL [(⟨2, 22⟩, .is (El E4)), (⟨5, 25⟩, .is (El E5)), (⟨6, 26⟩, .is (Key (keyOf KN))), (⟨7, 27⟩, .is (El E6)), (⟨8, 28⟩, .is (El E7)), (⟨9, 8⟩, .rel (fun v w' => ∃ g, v = .pointer (some ⟨g, 0, none⟩) ∧ Blk w' g 83 (El_cells 0)))] [] 1 _ _ _ (by kernel_rfl) (fun _ _ _ _ _ h => h) ?_ (fun _ _ _ _ _ h => h) (fun _ _ h hb => h.below hb) hS ?_ ?_ ?_
   · exact fun _ _ h => by cases h
   ·
    intro j hj
    simp only [List.map_cons, List.map_nil, List.mem_cons, List.not_mem_nil, or_false] at hj
    rcases hj with rfl | rfl | rfl | rfl | rfl | rfl
    · exact fun _ _ _ h _ => h
    · exact fun _ _ _ h _ => h
    · exact fun _ _ _ h _ => h
    · exact fun _ _ _ h _ => h
    · exact fun _ _ _ h _ => h
    ·
     intro v w1 w2 h hb
     obtain ⟨g, e, H⟩ : ∃ g, v = .pointer (some ⟨g, 0, none⟩) ∧ Blk w1 g 83 (El_cells 0) := h
     exact ⟨g, e, H.below' hb⟩
   ·
    intro j hj
    simp only [List.map_cons, List.map_nil, List.mem_cons, List.not_mem_nil, or_false] at hj
    rcases hj with rfl | rfl | rfl | rfl | rfl | rfl
    ·
     refine job_frame [] (by kernel_rfl) ?_
     show JobAt _ _ _ _ _ _ _
     intro W K hS' hK
     unfold wpOp
     go_simp
     left
     refine (mul_v X E1 E4 _ lX lE1 HE4.out).mono ?_
     rintro e v ⟨rfl, b⟩
     exact hK _ _ rfl b (fun g hg => ((block_agg _) g hg).elim)
    ·
     refine job_frame [] (by kernel_rfl) ?_
     show JobAt _ _ _ _ _ _ _
     intro W K hS' hK
     unfold wpOp
     go_simp
     left
     refine (mul_v X E3 E5 _ lX lE3 HE5.out).mono ?_
     rintro e v ⟨rfl, b⟩
     exact hK _ _ rfl b (fun g hg => ((block_agg _) g hg).elim)
    ·
     refine job_frame [] (by kernel_rfl) ?_
     show JobAt _ _ _ _ _ _ _
     intro W K hS' hK
     unfold wpOp
     go_simp
     left
     refine (ones_v 253 15 KN _ (by decide) (by decide) hKN.out).mono ?_
     rintro e v ⟨rfl, b⟩
     exact hK _ _ rfl b (fun g hg => ((block_agg _) g hg).elim)
    ·
     refine job_frame [⟨5, 25⟩, ⟨6, 26⟩] (by kernel_rfl) ?_
     show JobAt _ _ _ _ (Act.put (Act.put _ (some 26) (Key (keyOf KN))) (some 25) (El E5)) _ _
     simp only [Act.put, List.setIfInBounds_toArray, List.set_cons_zero, List.set_cons_succ]
     intro W K hS' hK
     unfold wpOp
     go_simp
     left
     refine (power_v E5 KN E6 _ lE5 lKN HE6.out).mono ?_
     rintro e v ⟨rfl, b⟩
     exact hK _ _ rfl b (fun g hg => ((block_agg _) g hg).elim)
    ·
     refine job_frame [⟨2, 22⟩, ⟨7, 27⟩] (by kernel_rfl) ?_
     show JobAt _ _ _ _ (Act.put (Act.put _ (some 27) (El E6)) (some 22) (El E4)) _ _
     simp only [Act.put, List.setIfInBounds_toArray, List.set_cons_zero, List.set_cons_succ]
     intro W K hS' hK
     unfold wpOp
     go_simp
     left
     refine (mul_v E4 E6 E7 _ lE4 lE6 HE7.out).mono ?_
     rintro e v ⟨rfl, b⟩
     exact hK _ _ rfl b (fun g hg => ((block_agg _) g hg).elim)
    ·
     refine job_frame [] (by kernel_rfl) ?_
     show JobAt _ _ _ _ _ _ _
     exact job_alloc 83 (El_cells 0) _ _ rfl rfl rfl (fun W => by go_simp; rfl)
   ·
    intro f W hS2 hB1 hR hF hA
    have e2 : f 2 = (El E4) := hR ⟨2, 22⟩ (by simp)
    have e5 : f 5 = (El E5) := hR ⟨5, 25⟩ (by simp)
    have e6 : f 6 = (Key (keyOf KN)) := hR ⟨6, 26⟩ (by simp)
    have e7 : f 7 = (El E6) := hR ⟨7, 27⟩ (by simp)
    have e8 : f 8 = (El E7) := hR ⟨8, 28⟩ (by simp)
    obtain ⟨g9r3, e9, A9⟩ : ∃ g, f 9 = .pointer (some ⟨g, 0, none⟩) ∧ Blk W g 83 (El_cells 0) := hR ⟨9, 8⟩ (by simp)
    have n9 : _ ≤ g9r3 := (hF ⟨9, 8⟩ (by simp) g9r3 (by show blockOf (f 9) = _; rw [e9]; rfl)).1
    clear hA hF hR
    simp only [setAll, putAll, List.map_cons, List.map_nil, List.foldr_cons, List.foldr_nil, Act.put, List.setIfInBounds_toArray, List.set_cons_zero, List.set_cons_succ, e2, e5, e6, e7, e8, e9]
    clear e2 e5 e6 e7 e8 e9
    have hBs := hB1
    replace hB1 := below_setRow hB1 n9 (El_cells E7)
    refine wpAnyZ_store_row 10 rfl (by kernel_rfl) rfl _ _ _ rfl g9r3 (El_cells E7) rfl rfl _ _ A9 (info_El _) rfl (El_one _) (hS.below hB1) ?_
    try simp only [Act.put, List.setIfInBounds_toArray, List.set_cons_zero, List.set_cons_succ]
    replace A9 := A9.row (El_cells E7)
    refine wpAnyZ_done (by kernel_rfl) ?_ _
    replace HR := HR.below hB1
    have hS3 := hS.below hB1
    replace hB := hB.trans (hB1.mono hB.size)
    clear hS hS2 hB1 hBs
    have hS : Facts [.blk (g9r3) 83 (El_cells E7), .blk (g5r2) 83 (El_cells E3), .blk (g5r1) 83 (El_cells E1), .blk (w.heap.size) 83 (El_cells X), .blk (w.heap.size + 1) 83 (El_cells Y)] _ := Facts.cons (f := .blk g9r3 83 (El_cells E7)) A9 (hS3)
    clear hS3
    try clear n9
    clear A9
    generalize hWn : World.setRow _ _ _ = Wn at *
    clear hWn
    go_upto_region 4 with fail
    replace hS := hS.drew
    replace hB := below_drew hB
    replace HR := HR.drew
    refine wp_region_Z (S := Facts [.blk (g9r3) 83 (El_cells E7), .blk (g5r2) 83 (El_cells E3), .blk (g5r1) 83 (El_cells E1), .blk (w.heap.size) 83 (El_cells X), .blk (w.heap.size + 1) 83 (El_cells Y)]) 6 (by kernel_rfl) ?_
    refine wpAnyZ_takeL 0 rfl (by kernel_rfl) (by kernel_rfl) (by kernel_rfl) (by kernel_rfl) (by kernel_rfl) (fun _ _ _ h => h) (show YieldsIf _ _ _ _ (El E7) _ from yieldsIf_load rfl 83 _ rfl (g9r3) rfl 83 _ _ (.head _) Tryz.underlying83 rfl (info_El _)) hS ?_
    simp only [Act.put, List.setIfInBounds_toArray, List.set_cons_zero, List.set_cons_succ]
    refine wpAnyZ_takeL 1 rfl (by kernel_rfl) (by kernel_rfl) (by kernel_rfl) (by kernel_rfl) (by kernel_rfl) (fun _ _ _ h => h) (show YieldsIf _ _ _ _ (El E7) _ from yieldsIf_load rfl 83 _ rfl (g9r3) rfl 83 _ _ (.head _) Tryz.underlying83 rfl (info_El _)) hS ?_
    simp only [Act.put, List.setIfInBounds_toArray, List.set_cons_zero, List.set_cons_succ]
    refine wpAnyZ_takeL 3 rfl (by kernel_rfl) (by kernel_rfl) (by kernel_rfl) (by kernel_rfl) (by kernel_rfl) (fun _ _ _ h => h) (show YieldsIf _ _ _ _ (El Y) _ from yieldsIf_load rfl 83 _ rfl (w.heap.size + 1) rfl 83 _ _ (.tail _ (.tail _ (.tail _ (.tail _ (.head _))))) Tryz.underlying83 rfl (info_El _)) hS ?_
    simp only [Act.put, List.setIfInBounds_toArray, List.set_cons_zero, List.set_cons_succ]
    refine wpAnyZ_jobsL [(⟨2, 31⟩, .is (El E8)), (⟨4, 33⟩, .is (El E9)), (⟨5, 9⟩, .rel (fun v w' => ∃ g, v = .pointer (some ⟨g, 0, none⟩) ∧ Blk w' g 83 (El_cells 0)))] [] 1 _ _ _ (by kernel_rfl) (fun _ _ _ _ _ h => h) ?_ (fun _ _ _ _ _ h => h) (fun _ _ h hb => h.below hb) hS ?_ ?_ ?_
    · exact fun _ _ h => by cases h
    ·
     intro j hj
     simp only [List.map_cons, List.map_nil, List.mem_cons, List.not_mem_nil, or_false] at hj
     rcases hj with rfl | rfl | rfl
     · exact fun _ _ _ h _ => h
     · exact fun _ _ _ h _ => h
     ·
      intro v w1 w2 h hb
      obtain ⟨g, e, H⟩ : ∃ g, v = .pointer (some ⟨g, 0, none⟩) ∧ Blk w1 g 83 (El_cells 0) := h
      exact ⟨g, e, H.below' hb⟩
    ·
     intro j hj
     simp only [List.map_cons, List.map_nil, List.mem_cons, List.not_mem_nil, or_false] at hj
     rcases hj with rfl | rfl | rfl
     ·
      refine job_frame [] (by kernel_rfl) ?_
      show JobAt _ _ _ _ _ _ _
      intro W K hS' hK
      unfold wpOp
      go_simp
      left
      refine (mul_v E7 E7 E8 _ lE7 lE7 HE8.out).mono ?_
      rintro e v ⟨rfl, b⟩
      exact hK _ _ rfl b (fun g hg => ((block_agg _) g hg).elim)
     ·
      refine job_frame [⟨2, 31⟩] (by kernel_rfl) ?_
      show JobAt _ _ _ _ (Act.put _ (some 31) (El E8)) _ _
      simp only [Act.put, List.setIfInBounds_toArray, List.set_cons_zero, List.set_cons_succ]
      intro W K hS' hK
      unfold wpOp
      go_simp
      left
      refine (mul_v E8 Y E9 _ lE8 lY HE9.out).mono ?_
      rintro e v ⟨rfl, b⟩
      exact hK _ _ rfl b (fun g hg => ((block_agg _) g hg).elim)
     ·
      refine job_frame [] (by kernel_rfl) ?_
      show JobAt _ _ _ _ _ _ _
      exact job_alloc 83 (El_cells 0) _ _ rfl rfl rfl (fun W => by go_simp; rfl)
    ·
     intro f W hS2 hB1 hR hF hA
     have e2 : f 2 = (El E8) := hR ⟨2, 31⟩ (by simp)
     have e4 : f 4 = (El E9) := hR ⟨4, 33⟩ (by simp)
     obtain ⟨g5r4, e5, A5⟩ : ∃ g, f 5 = .pointer (some ⟨g, 0, none⟩) ∧ Blk W g 83 (El_cells 0) := hR ⟨5, 9⟩ (by simp)
     have n5 : _ ≤ g5r4 := (hF ⟨5, 9⟩ (by simp) g5r4 (by show blockOf (f 5) = _; rw [e5]; rfl)).1
     clear hA hF hR
     simp only [setAll, putAll, List.map_cons, List.map_nil, List.foldr_cons, List.foldr_nil, Act.put, List.setIfInBounds_toArray, List.set_cons_zero, List.set_cons_succ, e2, e4, e5]
     clear e2 e4 e5
     have hBs := hB1
     replace hB1 := below_setRow hB1 n5 (El_cells E9)
     refine wpAnyZ_store_row 6 rfl (by kernel_rfl) rfl _ _ _ rfl g5r4 (El_cells E9) rfl rfl _ _ A5 (info_El _) rfl (El_one _) (hS.below hB1) ?_
     try simp only [Act.put, List.setIfInBounds_toArray, List.set_cons_zero, List.set_cons_succ]
     replace A5 := A5.row (El_cells E9)
     refine wpAnyZ_done (by kernel_rfl) ?_ _
     replace HR := HR.below hB1
     have hS3 := hS.below hB1
     replace hB := hB.trans (hB1.mono hB.size)
     clear hS hS2 hB1 hBs
     have hS : Facts [.blk (g5r4) 83 (El_cells E9), .blk (g9r3) 83 (El_cells E7), .blk (g5r2) 83 (El_cells E3), .blk (g5r1) 83 (El_cells E1), .blk (w.heap.size) 83 (El_cells X), .blk (w.heap.size + 1) 83 (El_cells Y)] _ := Facts.cons (f := .blk g5r4 83 (El_cells E9)) A5 (hS3)
     clear hS3
     try clear n5
     clear A5
     generalize hWn : World.setRow _ _ _ = Wn at *
     clear hWn
     go_upto_region 5 with fail
     by_cases c1 : E9 = X
     ·
      have eRV : Hid (RV = E7) := Lib.hid (by rw [HRV.out, if_pos c1])
      have eOK : Hid (OK = true) := Lib.hid (by rw [HOK.out, decide_eq_true c1]; rfl)
      replace c1 := Lib.hid c1
      clear HRV HOK
      refine wp_region_seq ?_
      refine wpSeq_yield (S := Facts [.blk (g5r4) 83 (El_cells E9), .blk (g9r3) 83 (El_cells E7), .blk (g5r2) 83 (El_cells E3), .blk (g5r1) 83 (El_cells E1), .blk (w.heap.size) 83 (El_cells X), .blk (w.heap.size + 1) 83 (El_cells Y)]) (show YieldsIf _ _ _ _ (El E9) _ from yieldsIf_load rfl 83 _ rfl (g5r4) rfl 83 _ _ (.head _) Tryz.underlying83 rfl (info_El _)) hS ?_
      simp only [Act.put, List.setIfInBounds_toArray, List.set_cons_zero, List.set_cons_succ]
      refine wpSeq_yield (S := Facts [.blk (g5r4) 83 (El_cells E9), .blk (g9r3) 83 (El_cells E7), .blk (g5r2) 83 (El_cells E3), .blk (g5r1) 83 (El_cells E1), .blk (w.heap.size) 83 (El_cells X), .blk (w.heap.size + 1) 83 (El_cells Y)]) (show YieldsIf _ _ _ _ (El X) _ from yieldsIf_load rfl 83 _ rfl (w.heap.size) rfl 83 _ _ (.tail _ (.tail _ (.tail _ (.tail _ (.head _))))) Tryz.underlying83 rfl (info_El _)) hS ?_
      simp only [Act.put, List.setIfInBounds_toArray, List.set_cons_zero, List.set_cons_succ]
      refine wpSeq_wp rfl ?_
      go_simp
      refine (same_v E9 X true _ (decide_eq_true c1.out)).mono ?_
      rintro e v1 ⟨rfl, b⟩
      replace hB := hB.trans (b.mono hB.size)
      replace hS := hS.below b
      replace HR := HR.below b
      clear b
      show wpSeq _ _ _ _ _ _
      refine wpSeq_nil ?_
      have Br := HR.blk
      have Bx := hS.blkAt _ _ _ (.tail _ (.head _))
      go_wp2_with (first | (refine wpList_load_row rfl 83 _ rfl (g9r3) rfl 83 _ (0, 0) _ Bx Tryz.underlying83 rfl (info_El _) ?_) | (refine wpList_store_row rfl 83 _ _ rfl (w.heap.size + 1 + 1) (El_cells E7) rfl rfl 83 _ Br (info_El _) rfl (El_one _) ?_))
      refine bodyPost_ret (results_cell_tmp rfl _ _ _ 83 _ (0, 0) _ _ rfl (Br.row _) Tryz.underlying83 rfl (info_El _) rfl) rfl ⟨?_, below_setRow hB (by omega) _⟩
      rw [eOK.out, eRV.out]
      rfl
     ·
      obtain ⟨E10, hE10⟩ : ∃ r, r = (pp - X) % pp := ⟨_, rfl⟩
      have lE10 : E10 < pp := hE10 ▸ Nat.mod_lt _ pp_pos
      have HE10 := Lib.hid hE10
      clear hE10
      obtain ⟨E11, hE11⟩ : ∃ r, r = E7 * I % pp := ⟨_, rfl⟩
      have lE11 : E11 < pp := hE11 ▸ Nat.mod_lt _ pp_pos
      have HE11 := Lib.hid hE11
      clear hE11
      by_cases c2 : E9 = E10
      ·
       have eRV : Hid (RV = E7 * I % pp) := Lib.hid (by rw [HRV.out, if_neg c1, if_pos (c2.trans HE10.out)])
       have eOK : Hid (OK = true) := Lib.hid (by rw [HOK.out, decide_eq_false c1, decide_eq_true (c2.trans HE10.out)]; rfl)
       rw [← HE11.out] at eRV
       replace c1 := Lib.hid c1
       replace c2 := Lib.hid c2
       clear HRV HOK
       refine wp_region_seq ?_
       refine wpSeq_yield (S := Facts [.blk (g5r4) 83 (El_cells E9), .blk (g9r3) 83 (El_cells E7), .blk (g5r2) 83 (El_cells E3), .blk (g5r1) 83 (El_cells E1), .blk (w.heap.size) 83 (El_cells X), .blk (w.heap.size + 1) 83 (El_cells Y)]) (show YieldsIf _ _ _ _ (El E9) _ from yieldsIf_load rfl 83 _ rfl (g5r4) rfl 83 _ _ (.head _) Tryz.underlying83 rfl (info_El _)) hS ?_
       simp only [Act.put, List.setIfInBounds_toArray, List.set_cons_zero, List.set_cons_succ]
       refine wpSeq_yield (S := Facts [.blk (g5r4) 83 (El_cells E9), .blk (g9r3) 83 (El_cells E7), .blk (g5r2) 83 (El_cells E3), .blk (g5r1) 83 (El_cells E1), .blk (w.heap.size) 83 (El_cells X), .blk (w.heap.size + 1) 83 (El_cells Y)]) (show YieldsIf _ _ _ _ (El X) _ from yieldsIf_load rfl 83 _ rfl (w.heap.size) rfl 83 _ _ (.tail _ (.tail _ (.tail _ (.tail _ (.head _))))) Tryz.underlying83 rfl (info_El _)) hS ?_
       simp only [Act.put, List.setIfInBounds_toArray, List.set_cons_zero, List.set_cons_succ]
       refine wpSeq_wp rfl ?_
       go_simp
       refine (same_v E9 X false _ (decide_eq_false c1.out)).mono ?_
       rintro e v1 ⟨rfl, b⟩
       replace hB := hB.trans (b.mono hB.size)
       replace hS := hS.below b
       replace HR := HR.below b
       clear b
       show wpSeq _ _ _ _ _ _
       refine wpSeq_nil ?_
       go_upto_region 7 with fail
       replace hS := hS.drew
       replace hB := below_drew hB
       replace HR := HR.drew
       refine wp_region_Z (S := Facts [.blk (g5r4) 83 (El_cells E9), .blk (g9r3) 83 (El_cells E7), .blk (g5r2) 83 (El_cells E3), .blk (g5r1) 83 (El_cells E1), .blk (w.heap.size) 83 (El_cells X), .blk (w.heap.size + 1) 83 (El_cells Y)]) 3 (by kernel_rfl) ?_
       refine wpAnyZ_takeL 0 rfl (by kernel_rfl) (by kernel_rfl) (by kernel_rfl) (by kernel_rfl) (by kernel_rfl) (fun _ _ _ h => h) (show YieldsIf _ _ _ _ (El E9) _ from yieldsIf_load rfl 83 _ rfl (g5r4) rfl 83 _ _ (.head _) Tryz.underlying83 rfl (info_El _)) hS ?_
       simp only [Act.put, List.setIfInBounds_toArray, List.set_cons_zero, List.set_cons_succ]
       refine wpAnyZ_load_row 1 rfl (by kernel_rfl) rfl _ _ rfl (w.heap.size) rfl _ _ _ (hS.blkAt _ _ _ (.tail _ (.tail _ (.tail _ (.tail _ (.head _)))))) Tryz.underlying83 rfl (info_El _) hS ?_
       change wpAnyZ _ _ _ _ _ _ _ _ (Act.put _ _ (El X)) _
       simp only [Act.put, List.setIfInBounds_toArray, List.set_cons_zero, List.set_cons_succ]
       refine wpAnyZ_one (i := 2) (by kernel_rfl) ?_
       unfold wpOp
       go_simp
       left
       refine (neg_v X E10 _ lX HE10.out).mono ?_
       rintro e v2 ⟨rfl, b⟩
       replace hB := hB.trans (b.mono hB.size)
       replace hS := hS.below b
       replace HR := HR.below b
       clear b
       refine ⟨hS, ?_⟩
       refine wpAnyZ_one (i := 3) (by kernel_rfl) ?_
       unfold wpOp
       go_simp
       left
       refine (same_v E9 E10 true _ (decide_eq_true c2.out)).mono ?_
       rintro e v3 ⟨rfl, b⟩
       replace hB := hB.trans (b.mono hB.size)
       replace hS := hS.below b
       replace HR := HR.below b
       clear b
       refine wpAnyZ_done (by kernel_rfl) ?_ _
       go_upto_region 8 with fail
       replace hS := hS.drew
       replace hB := below_drew hB
       replace HR := HR.drew
       refine wp_region_Z (S := Facts [.blk (g5r4) 83 (El_cells E9), .blk (g9r3) 83 (El_cells E7), .blk (g5r2) 83 (El_cells E3), .blk (g5r1) 83 (El_cells E1), .blk (w.heap.size) 83 (El_cells X), .blk (w.heap.size + 1) 83 (El_cells Y)]) 3 (by kernel_rfl) ?_
       refine wpAnyZ_takeL 0 rfl (by kernel_rfl) (by kernel_rfl) (by kernel_rfl) (by kernel_rfl) (by kernel_rfl) (fun _ _ _ h => h) (show YieldsIf _ _ _ _ (El E7) _ from yieldsIf_load rfl 83 _ rfl (g9r3) rfl 83 _ _ (.tail _ (.head _)) Tryz.underlying83 rfl (info_El _)) hS ?_
       simp only [Act.put, List.setIfInBounds_toArray, List.set_cons_zero, List.set_cons_succ]
       refine wpAnyZ_one (i := 1) (by kernel_rfl) ?_
       unfold wpOp
       go_simp
       left
       refine (rminus_v I _ hI).mono ?_
       rintro e v4 ⟨rfl, b⟩
       replace hB := hB.trans (b.mono hB.size)
       replace hS := hS.below b
       replace HR := HR.below b
       clear b
       refine ⟨hS, ?_⟩
       refine wpAnyZ_one (i := 2) (by kernel_rfl) ?_
       unfold wpOp
       go_simp
       left
       refine (mul_v E7 I E11 _ lE7 hI.lt HE11.out).mono ?_
       rintro e v5 ⟨rfl, b⟩
       replace hB := hB.trans (b.mono hB.size)
       replace hS := hS.below b
       replace HR := HR.below b
       clear b
       refine ⟨hS, ?_⟩
       have Br := HR.blk
       refine wpAnyZ_store_last 3 rfl (by kernel_rfl) rfl _ _ _ rfl (w.heap.size + 1 + 1) (El_cells E11) rfl rfl _ _ Br (info_El _) rfl (El_one _) ?_
       try simp only [Act.put, List.setIfInBounds_toArray, List.set_cons_zero, List.set_cons_succ]
       refine wpAnyZ_one (i := 4) (by kernel_rfl) ?_
       unfold wpOp
       go_simp
       left
       refine wpAnyZ_done (by kernel_rfl) ?_ _
       go_wp2
       refine bodyPost_ret (results_cell_tmp rfl _ _ _ 83 _ (0, 0) _ _ rfl (Br.row _) Tryz.underlying83 rfl (info_El _) rfl) rfl ⟨?_, below_setRow hB (by omega) _⟩
       rw [eOK.out, eRV.out]
       rfl
      ·
       have c3 : ¬ E9 = (pp - X) % pp := fun h => c2 (h.trans HE10.out.symm)
       have eRV : Hid (RV = 0) := Lib.hid (by rw [HRV.out, if_neg c1, if_neg c3])
       have eOK : Hid (OK = false) := Lib.hid (by rw [HOK.out, decide_eq_false c1, decide_eq_false c3]; rfl)
       replace c1 := Lib.hid c1
       replace c2 := Lib.hid c2
       clear HRV HOK c3
       refine wp_region_seq ?_
       refine wpSeq_yield (S := Facts [.blk (g5r4) 83 (El_cells E9), .blk (g9r3) 83 (El_cells E7), .blk (g5r2) 83 (El_cells E3), .blk (g5r1) 83 (El_cells E1), .blk (w.heap.size) 83 (El_cells X), .blk (w.heap.size + 1) 83 (El_cells Y)]) (show YieldsIf _ _ _ _ (El E9) _ from yieldsIf_load rfl 83 _ rfl (g5r4) rfl 83 _ _ (.head _) Tryz.underlying83 rfl (info_El _)) hS ?_
       simp only [Act.put, List.setIfInBounds_toArray, List.set_cons_zero, List.set_cons_succ]
       refine wpSeq_yield (S := Facts [.blk (g5r4) 83 (El_cells E9), .blk (g9r3) 83 (El_cells E7), .blk (g5r2) 83 (El_cells E3), .blk (g5r1) 83 (El_cells E1), .blk (w.heap.size) 83 (El_cells X), .blk (w.heap.size + 1) 83 (El_cells Y)]) (show YieldsIf _ _ _ _ (El X) _ from yieldsIf_load rfl 83 _ rfl (w.heap.size) rfl 83 _ _ (.tail _ (.tail _ (.tail _ (.tail _ (.head _))))) Tryz.underlying83 rfl (info_El _)) hS ?_
       simp only [Act.put, List.setIfInBounds_toArray, List.set_cons_zero, List.set_cons_succ]
       refine wpSeq_wp rfl ?_
       go_simp
       refine (same_v E9 X false _ (decide_eq_false c1.out)).mono ?_
       rintro e v1 ⟨rfl, b⟩
       replace hB := hB.trans (b.mono hB.size)
       replace hS := hS.below b
       replace HR := HR.below b
       clear b
       show wpSeq _ _ _ _ _ _
       refine wpSeq_nil ?_
       go_upto_region 7 with fail
       replace hS := hS.drew
       replace hB := below_drew hB
       replace HR := HR.drew
       refine wp_region_Z (S := Facts [.blk (g5r4) 83 (El_cells E9), .blk (g9r3) 83 (El_cells E7), .blk (g5r2) 83 (El_cells E3), .blk (g5r1) 83 (El_cells E1), .blk (w.heap.size) 83 (El_cells X), .blk (w.heap.size + 1) 83 (El_cells Y)]) 3 (by kernel_rfl) ?_
       refine wpAnyZ_takeL 0 rfl (by kernel_rfl) (by kernel_rfl) (by kernel_rfl) (by kernel_rfl) (by kernel_rfl) (fun _ _ _ h => h) (show YieldsIf _ _ _ _ (El E9) _ from yieldsIf_load rfl 83 _ rfl (g5r4) rfl 83 _ _ (.head _) Tryz.underlying83 rfl (info_El _)) hS ?_
       simp only [Act.put, List.setIfInBounds_toArray, List.set_cons_zero, List.set_cons_succ]
       refine wpAnyZ_load_row 1 rfl (by kernel_rfl) rfl _ _ rfl (w.heap.size) rfl _ _ _ (hS.blkAt _ _ _ (.tail _ (.tail _ (.tail _ (.tail _ (.head _)))))) Tryz.underlying83 rfl (info_El _) hS ?_
       change wpAnyZ _ _ _ _ _ _ _ _ (Act.put _ _ (El X)) _
       simp only [Act.put, List.setIfInBounds_toArray, List.set_cons_zero, List.set_cons_succ]
       refine wpAnyZ_one (i := 2) (by kernel_rfl) ?_
       unfold wpOp
       go_simp
       left
       refine (neg_v X E10 _ lX HE10.out).mono ?_
       rintro e v2 ⟨rfl, b⟩
       replace hB := hB.trans (b.mono hB.size)
       replace hS := hS.below b
       replace HR := HR.below b
       clear b
       refine ⟨hS, ?_⟩
       refine wpAnyZ_one (i := 3) (by kernel_rfl) ?_
       unfold wpOp
       go_simp
       left
       refine (same_v E9 E10 false _ (decide_eq_false c2.out)).mono ?_
       rintro e v3 ⟨rfl, b⟩
       replace hB := hB.trans (b.mono hB.size)
       replace hS := hS.below b
       replace HR := HR.below b
       clear b
       refine wpAnyZ_done (by kernel_rfl) ?_ _
       have Br := HR.blk
       go_wp2_with (refine wpList_store_row rfl 83 _ _ rfl (w.heap.size + 1 + 1) (El_cells 0) rfl rfl 83 _ Br (info_El _) rfl (El_one _) ?_)
       refine bodyPost_ret (results_cell_tmp rfl _ _ _ 83 _ (0, 0) _ _ rfl (Br.row _) Tryz.underlying83 rfl (info_El _) rfl) rfl ⟨?_, below_setRow hB (by omega) _⟩
       rw [eOK.out, eRV.out]
       rfl
end Go.Proofs.YtegbnadnodlalaaGreatDoor
