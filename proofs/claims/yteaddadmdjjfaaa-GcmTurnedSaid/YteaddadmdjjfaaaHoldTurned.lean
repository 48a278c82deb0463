/- GcmTurned returns true at every input -/
import Derived.Test.YteaddadmdjjfaaaVg
import Derived.Test.YteaddadmdjjfaaaRows
import Derived.Test.YteaddadmdjjfaaaLd
namespace Go.Proofs.Yteaddadmdjjfaaa
open Go.RowKit

section
variable {P : Program} {md : Region.Mode} {ops : Array Oper} {Q : Exit → Act → World → Prop} {S : World → Prop}
/-- The one operation that may come up, guarded on. -/
theorem zstepG (i : Nat) {z : Nat} {oi : Oper} {fuel : Nat} {listed : Array Bool} {a : Act} {w : World} (hi : ops.toList[i]? = some oi) (hwd : Region.wanted oi (yielded ops a.tmps) = true) (hr : Region.ready md ops listed = [i])
    (h : oi.wp P a w (fun a' w' => ((listed.setIfInBounds i true).getD z true = false → S w') ∧ wpAnyZ P md ops Q S z fuel (listed.setIfInBounds i true) a' w') Q) : wpAnyZ P md ops Q S z (fuel + 1) listed a w := by
  refine wpAnyZ_one hr ?_
  unfold wpOp
  rw [← Array.getElem?_toList, hi]
  simp only [hwd, if_true]
  left
  exact h
end
theorem vals_set (l : List Nat) (i y : Nat) : (vals l).set i (.int .u8 ((y : Nat) : Int)) = vals (l.set i y) := by
  unfold vals
  rw [List.map_set]
/-- A byte put into a row of one's own. -/
theorem OwL.put {B : Nat} {w : World} {g n c : Nat} {l : List Nat} (h : OwL B w (.slice (some ⟨g, 0, none⟩) n c) l) (i y : Nat) : OwL B (w.setCell ⟨g, i, none⟩ (.int .u8 ((y : Nat) : Int))) (.slice (some ⟨g, 0, none⟩) n c) (l.set i y) := by
  obtain ⟨hl, hr⟩ := h
  rcases hr with ⟨e, _⟩ | ⟨g', cap, cur, e, hB, hg, hnc, hcm, hcs, htake⟩
  · cases e
  · simp only [Value.slice.injEq, Option.some.injEq, Addr.mk.injEq, and_true] at e
    obtain ⟨rfl, rfl, rfl⟩ := e
    refine ⟨by rw [vals_length, Nat.mul_one], .inr ⟨g, c, cur.setIfInBounds i (.int .u8 ((y : Nat) : Int)), by rw [List.length_set], hB, Blk.set hg i _, by rw [List.length_set]; exact hnc, hcm, by rw [Array.size_setIfInBounds]; exact hcs, ?_⟩⟩
    rw [List.length_set, Array.toList_setIfInBounds, List.take_set, htake, vals_set]
theorem OwL.at_cell {B : Nat} {w : World} {g n c : Nat} {l : List Nat} (h : OwL B w (.slice (some ⟨g, 0, none⟩) n c) l) (i : Nat) (hi : i < l.length) : w.cell? ⟨g, i, none⟩ = some (.int .u8 ((l.getD i 0 : Nat) : Int)) ∧ w.frozen? ⟨g, i, none⟩ = false := by
  rcases h.row with ⟨e, _⟩ | ⟨g', c', e, _, _, _, A, cur, KB, _⟩
  · cases e
  · simp only [Value.slice.injEq, Option.some.injEq, Addr.mk.injEq, and_true] at e
    obtain ⟨rfl, _, _⟩ := e
    refine ⟨?_, Blk.frozen KB i⟩
    have := A.cell i hi
    rw [Nat.zero_add] at this
    rw [this]
    simp [List.getD_eq_getElem?_getD, hi]
/-- 'append([]byte{}, m...)' of some bytes. -/
theorem own_copy (W : World) (ty : TypeId) (x : Value) (m : List Nat) (hx : SB W x m) (hm : m.length ≤ 1000) (h0 : 0 < m.length) :
    ∃ g c w1, (Builtin.append_ #[24, 24] ty #[.slice (some ⟨W.heap.size, 0, none⟩) 0 0, x]).run Try.prog (W.alloc (.cells #[] 5)) = .ok (.slice (some ⟨g, 0, none⟩) m.length c) w1 ∧ OwL W.heap.size w1 (.slice (some ⟨g, 0, none⟩) m.length c) m ∧ W.heap.size ≤ g ∧ Below W.heap.size W w1 := by
  have b0 := (Below.refl W.heap.size W).alloc (Nat.le_refl _) (.cells #[] 5)
  obtain ⟨v1, w1, h1, o1, g1, e1⟩ := append_sb W.heap.size _ ty _ x [] m (OwL.new W.heap.size W [] (Nat.le_refl _) (Nat.zero_le _)) (hx.below b0) (by simp only [List.length_nil]; omega) b0.size
  rw [List.nil_append] at o1
  have b1 := below_grown' b0 g1 (fun j e => by have e' := Option.some.inj e; dsimp only at e'; omega) b0.size
  rcases o1.row with ⟨_, h2⟩ | ⟨g, c, rfl, hg, _, _, _, _⟩
  · rw [h2] at h0
    exact absurd h0 (by simp)
  · exact ⟨g, c, w1, h1, o1, hg, b1⟩
/-- What one store at a row of one's own leaves. -/
theorem below_put {B : Nat} {w w1 : World} {g i : Nat} (h : Below B w w1) (hg : B ≤ g) (v : Value) : Below B w (w1.setCell ⟨g, i, none⟩ v) := h.setCell (p := ⟨g, i, none⟩) hg v
theorem xor_ne (x y : Nat) (hy : y ≠ 0) : x ^^^ y ≠ x := fun h => hy (by
  have := congrArg (x ^^^ ·) h
  simp only [← Nat.xor_assoc, Nat.xor_self, Nat.zero_xor] at this
  exact this)
set_option maxHeartbeats 8000000 in
set_option maxRecDepth 100000 in
theorem turned_c (CS : SealC) (CO : OpenC) (K NN D b : List Nat) (lK : K.length = 16) (lN : NN.length = 12) (bK : ∀ x ∈ K, x < 256) (bN : ∀ x ∈ NN, x < 256) (bD : ∀ x ∈ D, x < 256) (bb : ∀ x ∈ b, x < 256)
    (pd pb : Option Addr) (nd nb cd cb m n : Nat) (hm : m < 65536) (hn : n < 256) (w : World) (hd : SB w (.slice pd nd cd) D) (hb : SB w (.slice pb nb cb) b) :
    Calls Try.prog 5 #[.agg (Iv .u8 (NI K)), .agg (Iv .u8 (NI NN)), .slice pd nd cd, .slice pb nb cb, .int .u16 (m : Int), .int .u8 (n : Int)] w fun e w' => e = .returned (.bool true) ∧ Below w.heap.size w w' := by
  have AW := Lib.hid (gawake_c CS)
  have eb := hb.len.1
  have EB := Lib.hid eb
  clear eb
  go_enter Try.func5, Try.ntmps5
  go_wp2_with fail
  refine (AW.out _).mono ?_
  rintro _ w1 ⟨rfl, b1⟩
  have k1 := ((Below.refl w.heap.size w).alloc (Nat.le_refl _) (.cells (Iv .u8 (NI K)) 22)).alloc (by simp) (.cells (Iv .u8 (NI NN)) 23)
  have M : SK w K NN w1 := SK.below ⟨(Blk.new w 22 (Iv .u8 (NI K))).alloc _, Blk.new' (by simp) _ (Iv .u8 (NI NN)), k1⟩ b1
  clear AW b1 k1
  have zM := M.n.lt
  by_cases h1 : 200 < nd
  · have h2 : (200 : Int) < (nd : Int) := by omega
    go_wp2
    go_ret
    exact ⟨rfl, M.bel⟩
  have h2 : ¬ (200 : Int) < (nd : Int) := by omega
  by_cases h3 : 200 < nb
  · have h4 : (200 : Int) < (nb : Int) := by omega
    go_wp2
    go_ret
    exact ⟨rfl, M.bel⟩
  have h4 : ¬ (200 : Int) < (nb : Int) := by omega
  -- the arithmetic
  obtain ⟨S, hS⟩ : ∃ S, S = sealL K NN D b := ⟨_, rfl⟩
  have lS : S.length = nb + 16 := by rw [hS, sealL_length, EB.out]
  have bS : ∀ x ∈ S, x < 256 := by rw [hS]; exact sealL_bytes bK bN bb (by have := EB.out; omega)
  have eO : some b = openL K NN D S := by rw [hS]; exact (open_seal K NN D b).symm
  obtain ⟨j, hj⟩ : ∃ j, j = m / 8 % 16 := ⟨_, rfl⟩
  obtain ⟨r, hr⟩ : ∃ r, r = m % 8 := ⟨_, rfl⟩
  obtain ⟨y, hy⟩ : ∃ y, y = 2 ^ r := ⟨_, rfl⟩
  have j16 : j < 16 := by omega
  have r8 : r < 8 := by omega
  have y256 : y < 256 := by rw [hy]; exact Nat.lt_of_lt_of_le (Nat.pow_lt_pow_right (by decide) r8) (by decide)
  have y0 : y ≠ 0 := by rw [hy]; exact Nat.pos_iff_ne_zero.1 (Nat.pow_pos (by decide))
  obtain ⟨x, hx⟩ : ∃ x, x = S.getD (nb + j) 0 := ⟨_, rfl⟩
  have lx : x < 256 := hx ▸ Bytes.getD bS _
  obtain ⟨z, hz⟩ : ∃ z, z = x ^^^ y := ⟨_, rfl⟩
  have lz : z < 256 := hz ▸ Nat.xor_lt_two_pow (n := 8) lx y256
  obtain ⟨T, hT⟩ : ∃ T, T = S.set (nb + j) z := ⟨_, rfl⟩
  have lT : T.length = nb + 16 := by rw [hT, List.length_set, lS]
  have bT : ∀ x ∈ T, x < 256 := by
    rw [hT]
    intro x hx
    rcases List.mem_or_eq_of_mem_set hx with h | h
    · exact bS x h
    · rw [h]; exact lz
  have eT : none = openL K NN D T := by
    rw [hT, hS]
    have := open_turned K NN D b j z j16 (by rw [← hS, ← EB.out, ← hx, hz]; exact xor_ne x y y0)
    rw [← EB.out] at this
    exact this.symm
  obtain ⟨q, hq⟩ : ∃ q, q = m % (nb + 16) := ⟨_, rfl⟩
  have q16 : q < nb + 16 := hq ▸ Nat.mod_lt _ (by omega)
  obtain ⟨u, hu⟩ : ∃ u, u = S.getD q 0 := ⟨_, rfl⟩
  have lu : u < 256 := hu ▸ Bytes.getD bS _
  obtain ⟨v, hv⟩ : ∃ v, v = u ^^^ 1 := ⟨_, rfl⟩
  have lv : v < 256 := hv ▸ Nat.xor_lt_two_pow (n := 8) lu (by decide)
  obtain ⟨U, hU⟩ : ∃ U, U = S.set q v := ⟨_, rfl⟩
  have lU : U.length = nb + 16 := by rw [hU, List.length_set, lS]
  have bU : ∀ x ∈ U, x < 256 := by
    rw [hU]
    intro x hx
    rcases List.mem_or_eq_of_mem_set hx with h | h
    · exact bS x h
    · rw [h]; exact lv
  obtain ⟨ou, hou⟩ : ∃ ou, ou = openL K NN D U := ⟨_, rfl⟩
  obtain ⟨k, hk⟩ : ∃ k, k = min n 15 := ⟨_, rfl⟩
  have k15 : k ≤ 15 := by omega
  have ek : (if 15 < (n : Int) then (15 : Int) else (n : Int)) = (k : Int) := by split <;> omega
  have eH : none = openL K NN D (S.take k) := (open_short (by rw [List.length_take]; omega)).symm
  have C1 := Lib.hid (fun W h1 h2 => CS K NN D b S pd pb nd nb cd cb lK lN bK bN bD bb (by omega) (by omega) hS W h1 h2)
  have CT := Lib.hid (fun ps cs W h1 h2 => CO K NN D T none pd ps nd (nb + 16) cd cs lK lN bK bN bD bT (by omega) (by omega) eT W h1 h2)
  have CW := Lib.hid (fun ps cs W h1 h2 => CO K NN D S (some b) pd ps nd (nb + 16) cd cs lK lN bK bN bD bS (by omega) (by omega) eO W h1 h2)
  have CH := Lib.hid (fun ps cs W h1 h2 => CO K NN D (S.take k) none pd ps nd k cd cs lK lN bK bN bD (Bytes.take bS k) (by omega) (by omega) eH W h1 h2)
  have CU := Lib.hid (fun ps cs W h1 h2 => CO K NN D U ou pd ps nd (nb + 16) cd cs lK lN bK bN bD bU (by omega) (by omega) hou W h1 h2)
  -- what the walk reckons
  have f7 : (2 : Int) ^ (m % 8) % 256 = (y : Int) := by
    rw [hy, hr]
    have : m % 8 = 0 ∨ m % 8 = 1 ∨ m % 8 = 2 ∨ m % 8 = 3 ∨ m % 8 = 4 ∨ m % 8 = 5 ∨ m % 8 = 6 ∨ m % 8 = 7 := by omega
    rcases this with h | h | h | h | h | h | h | h <;> rw [h] <;> rfl
  have f8 : bits .xor .u8 (x : Int) (y : Int) = (z : Int) := by rw [hz]; exact u8_xor_nat x y lx y256
  have f9 : bits .xor .u8 (u : Int) 1 = (v : Int) := by rw [hv]; exact u8_xor_nat u 1 lu (by decide)
  have fa : (m : Int).tmod ((nb : Int) + 16) = (q : Int) := by
    rw [Int.tmod_eq_emod_of_nonneg (by omega), hq]
    simp
  have fb : IntKind.i64.wrap (n : Int) = (n : Int) := by rw [IntKind.wrap_i64]; omega
  have HJ := Lib.hid hj
  have LS := Lib.hid lS
  have LU := Lib.hid lU
  have HT := Lib.hid hT
  have HU := Lib.hid hU
  have HX := Lib.hid hx
  have HU2 := Lib.hid hu
  have HOU := Lib.hid hou
  have HY := Lib.hid hy
  clear hS eO hj hr hy hx hz hT hq hu hv hU hou hk eH eT lS
  go_wp2_with (first | (refine wpList_load_row rfl 22 _ rfl w.heap.size rfl 22 _ (0, 0) _ M.k Try.underlying22 rfl (info_n _ lK) ?_) | (refine wpList_load_row rfl 23 _ rfl (w.heap.size + 1) rfl 23 _ (0, 0) _ M.n Try.underlying23 rfl (info_12 _ lN) ?_))
  refine (C1.out _ (hd.below M.bel) (hb.below M.bel)).mono ?_
  rintro _ w2 ⟨v2, rfl, O2, b2⟩
  obtain ⟨ps, cs, hv⟩ := O2.shape
  rw [LS.out] at hv
  subst hv
  replace M := M.below b2
  have s2 := O2.sb
  have z2 := b2.size
  clear b2 C1 O2 h2 h4
  go_upto_region 6 with fail
  rename_i aK
  obtain ⟨gt, ct, w3, hr3, O3, hgt, b3⟩ := own_copy w2 24 (.slice ps (nb + 16) cs) S s2 (by have := LS.out; omega) (by have := LS.out; omega)
  rw [LS.out] at hr3 O3
  refine wp_region_seq ?_
  refine wpSeq_wp rfl (wp_build_run _ rfl _ _ (run_buildSlice_none _) ?_)
  simp only [Act.put, List.setIfInBounds_toArray, List.set_cons_zero, List.set_cons_succ]
  refine wpSeq_yield (S := fun _ => True) (yieldsIf_move rfl _ rfl (.slice ps (nb + 16) cs) rfl) trivial ?_
  simp only [Act.put, List.setIfInBounds_toArray, List.set_cons_zero, List.set_cons_succ]
  refine wpSeq_wp rfl (wp_append_run _ _ _ _ rfl _ _ rfl rfl _ _ hr3 ?_)
  simp only [Act.put, List.setIfInBounds_toArray, List.set_cons_zero, List.set_cons_succ]
  refine wpSeq_yield (S := fun _ => True) (yieldsIf_assign rfl _ rfl (.slice (some ⟨gt, 0, none⟩) (nb + 16) ct) rfl) trivial ?_
  simp only [Act.put, List.setIfInBounds_toArray, List.set_cons_zero, List.set_cons_succ]
  refine wpSeq_nil ?_
  refine aK _ _ ?_
  clear aK hr3
  have cz := O3.at_cell (nb + j) (by have := LS.out; omega)
  rw [← HX.out] at cz
  obtain ⟨cz, fz⟩ := cz
  rw [HJ.out] at cz fz
  go_upto_region 8 with fail
  clear cz fz f7 f8
  rw [← HJ.out]
  replace O3 := O3.put (nb + j) z
  rw [← HT.out] at O3
  replace b3 := below_put (i := nb + j) b3 hgt (.int .u8 (z : Int))
  generalize World.setCell w3 _ _ = w4 at *
  replace M := M.below b3
  replace s2 := s2.below b3
  have z3 := b3.size
  have gtl := (O3.lt gt rfl).2
  clear b3
  rename_i aK
  obtain ⟨gu, cu, w5, hr5, O5, hgu, b5⟩ := own_copy w4 24 (.slice ps (nb + 16) cs) S s2 (by have := LS.out; omega) (by have := LS.out; omega)
  rw [LS.out] at hr5 O5
  refine wp_region_seq ?_
  refine wpSeq_wp rfl (wp_build_run _ rfl _ _ (run_buildSlice_none _) ?_)
  simp only [Act.put, List.setIfInBounds_toArray, List.set_cons_zero, List.set_cons_succ]
  refine wpSeq_yield (S := fun _ => True) (yieldsIf_move rfl _ rfl (.slice ps (nb + 16) cs) rfl) trivial ?_
  simp only [Act.put, List.setIfInBounds_toArray, List.set_cons_zero, List.set_cons_succ]
  refine wpSeq_wp rfl (wp_append_run _ _ _ _ rfl _ _ rfl rfl _ _ hr5 ?_)
  simp only [Act.put, List.setIfInBounds_toArray, List.set_cons_zero, List.set_cons_succ]
  refine wpSeq_yield (S := fun _ => True) (yieldsIf_assign rfl _ rfl (.slice (some ⟨gu, 0, none⟩) (nb + 16) cu) rfl) trivial ?_
  simp only [Act.put, List.setIfInBounds_toArray, List.set_cons_zero, List.set_cons_succ]
  refine wpSeq_nil ?_
  refine aK _ _ ?_
  clear aK hr5
  have cz := O5.at_cell q (by have := LS.out; omega)
  rw [← HU2.out] at cz
  obtain ⟨cz, fz⟩ := cz
  go_upto_region 10 with fail
  clear cz fz f9 fa
  replace O5 := O5.put q v
  rw [← HU.out] at O5
  replace b5 := below_put (i := q) b5 hgu (.int .u8 (v : Int))
  generalize World.setCell w5 _ _ = w6 at *
  replace M := M.below b5
  replace s2 := s2.below b5
  have s3 := O3.sb.below b5
  have s5 := O5.sb
  clear b5 O3 O5
  go_wp2_with (first | (refine wpList_load_row rfl 22 _ rfl w.heap.size rfl 22 _ (0, 0) _ M.k Try.underlying22 rfl (info_n _ lK) ?_) | (refine wpList_load_row rfl 23 _ rfl (w.heap.size + 1) rfl 23 _ (0, 0) _ M.n Try.underlying23 rfl (info_12 _ lN) ?_))
  refine (CT.out _ _ _ (hd.below M.bel) s3).mono ?_
  rintro _ w7 ⟨v7, rfl, _, b7⟩
  replace M := M.below b7
  replace s2 := s2.below b7
  replace s5 := s5.below b7
  clear b7 CT s3
  go_wp2_with (first | (refine wpList_load_row rfl 22 _ rfl w.heap.size rfl 22 _ (0, 0) _ M.k Try.underlying22 rfl (info_n _ lK) ?_) | (refine wpList_load_row rfl 23 _ rfl (w.heap.size + 1) rfl 23 _ (0, 0) _ M.n Try.underlying23 rfl (info_12 _ lN) ?_))
  refine (CW.out _ _ _ (hd.below M.bel) s2).mono ?_
  rintro _ w8 ⟨v8, rfl, _, b8⟩
  replace M := M.below b8
  replace s2 := s2.below b8
  replace s5 := s5.below b8
  clear b8 CW
  go_upto_region 12 with fail
  rename_i aK
  have kc : k ≤ cs := by
    have := s2.len
    omega
  refine wp_region_S (S := SK w K NN) (by kernel_rfl) ?_
  replace M := M.drew
  replace s2 := s2.drew
  replace s5 := s5.drew
  generalize w8.drew = V at M s2 s5 ⊢
  have hS := M
  refine wpAnyS_takeL 0 rfl (by kernel_rfl) (by kernel_rfl) (by kernel_rfl) (fun _ _ _ H => H) (show YieldsIf _ _ _ _ (Value.agg (Iv .u8 (NI K))) _ from yieldsIf_row_wanted rfl 22 _ rfl (w.heap.size) rfl 22 _ _ (fun _ h => h.k) Try.underlying22 rfl (info_n _ lK)) hS ?_
  simp only [Act.put, List.setIfInBounds_toArray, List.set_cons_zero, List.set_cons_succ]
  refine wpAnyS_takeL 1 rfl (by kernel_rfl) (by kernel_rfl) (by kernel_rfl) (fun _ _ _ H => H) (show YieldsIf _ _ _ _ (Value.agg (Iv .u8 (NI NN))) _ from yieldsIf_row_wanted rfl 23 _ rfl (w.heap.size + 1) rfl 23 _ _ (fun _ h => h.n) Try.underlying23 rfl (info_12 _ lN)) hS ?_
  simp only [Act.put, List.setIfInBounds_toArray, List.set_cons_zero, List.set_cons_succ]
  refine wpAnyS_takeL 2 rfl (by kernel_rfl) (by kernel_rfl) (by kernel_rfl) (fun _ _ _ H => H) (yieldsIf_move rfl _ rfl (.slice pd nd cd) rfl) hS ?_
  simp only [Act.put, List.setIfInBounds_toArray, List.set_cons_zero, List.set_cons_succ]
  refine wpAnyS_takeL 3 rfl (by kernel_rfl) (by kernel_rfl) (by kernel_rfl) (fun _ _ _ H => H) (yieldsIf_move rfl _ rfl (.slice ps (nb + 16) cs) rfl) hS ?_
  simp only [Act.put, List.setIfInBounds_toArray, List.set_cons_zero, List.set_cons_succ]
  refine wpAnyS_takeL 4 rfl (by kernel_rfl) (by kernel_rfl) (by kernel_rfl) (fun _ _ _ H => H) (yieldsIf_move rfl _ rfl (.int .u8 (n : Int)) rfl) hS ?_
  simp only [Act.put, List.setIfInBounds_toArray, List.set_cons_zero, List.set_cons_succ]
  refine wpAnyS_takeL 5 (v := .int .i64 (n : Int)) rfl (by kernel_rfl) (by kernel_rfl) (by kernel_rfl) (fun _ _ _ H => H) (Or.inl ⟨by rfl, fun w' hw' => by go_simp⟩) hS ?_
  simp only [Act.put, List.setIfInBounds_toArray, List.set_cons_zero, List.set_cons_succ]
  refine wpAnyS_takeL 6 (v := .int .i64 (k : Int)) rfl (by kernel_rfl) (by kernel_rfl) (by kernel_rfl) (fun _ _ _ H => H) (Or.inl ⟨by rfl, fun w' hw' => by go_simp⟩) hS ?_
  simp only [Act.put, List.setIfInBounds_toArray, List.set_cons_zero, List.set_cons_succ]
  refine wpAnyS_takeL 7 rfl (by kernel_rfl) (by kernel_rfl) (by kernel_rfl) (fun _ _ _ H => H) (yieldsIf_head rfl _ _ rfl ps (nb + 16) cs k rfl rfl kc) hS ?_
  simp only [Act.put, List.setIfInBounds_toArray, List.set_cons_zero, List.set_cons_succ]
  refine sstep 8 rfl rfl (by kernel_rfl) ?_
  unfold Oper.wp execOp
  go_simp
  refine (CH.out _ _ _ (hd.below M.bel) (s2.head k (by omega))).mono ?_
  rintro _ w9 ⟨v9, rfl, _, b9⟩
  replace M := M.below b9
  replace s2 := s2.below b9
  replace s5 := s5.below b9
  clear b9 CH hS
  refine ⟨M, ?_⟩
  have hS := M
  refine wpAnyS_takeL 9 rfl (by kernel_rfl) (by kernel_rfl) (by kernel_rfl) (fun _ _ _ H => H) (yieldsIf_move rfl _ rfl (.tuple #[v9, .bool false]) rfl) hS ?_
  simp only [Act.put, List.setIfInBounds_toArray, List.set_cons_zero, List.set_cons_succ]
  refine wpAnyS_takeL 10 (v := v9) rfl (by kernel_rfl) (by kernel_rfl) (by kernel_rfl) (fun _ _ _ H => H) (Or.inl ⟨by rfl, fun w' hw' => by go_simp⟩) hS ?_
  simp only [Act.put, List.setIfInBounds_toArray, List.set_cons_zero, List.set_cons_succ]
  refine wpAnyS_takeL 11 (v := .bool false) rfl (by kernel_rfl) (by kernel_rfl) (by kernel_rfl) (fun _ _ _ H => H) (Or.inl ⟨by rfl, fun w' hw' => by go_simp⟩) hS ?_
  simp only [Act.put, List.setIfInBounds_toArray, List.set_cons_zero, List.set_cons_succ]
  refine wpAnyS_takeL 12 rfl (by kernel_rfl) (by kernel_rfl) (by kernel_rfl) (fun _ _ _ H => H) (yieldsIf_assign rfl _ rfl (v9) rfl) hS ?_
  simp only [Act.put, List.setIfInBounds_toArray, List.set_cons_zero, List.set_cons_succ]
  refine wpAnyS_takeL 13 rfl (by kernel_rfl) (by kernel_rfl) (by kernel_rfl) (fun _ _ _ H => H) (yieldsIf_assign rfl _ rfl (.bool false) rfl) hS ?_
  simp only [Act.put, List.setIfInBounds_toArray, List.set_cons_zero, List.set_cons_succ]
  refine wpAnyS_done (by kernel_rfl) ?_ _
  refine aK _ _ ?_
  clear aK hS ek fb lU
  go_wp2_with (first | (refine wpList_load_row rfl 22 _ rfl w.heap.size rfl 22 _ (0, 0) _ M.k Try.underlying22 rfl (info_n _ lK) ?_) | (refine wpList_load_row rfl 23 _ rfl (w.heap.size + 1) rfl 23 _ (0, 0) _ M.n Try.underlying23 rfl (info_12 _ lN) ?_))
  refine (CU.out _ _ _ (hd.below M.bel) s5).mono ?_
  rintro _ w10 ⟨v10, rfl, O10, b10⟩
  replace M := M.below b10
  replace s5 := s5.below b10
  clear b10 CU s2
  cases ou with
  | none =>
    go_upto_region 14 with fail
    rename_i aK
    have BE := M.bel
    refine wp_region_S (S := fun w' => Below w.heap.size w w') (by kernel_rfl) ?_
    replace BE := below_drew BE
    generalize w10.drew = V2 at BE ⊢
    have hS := BE
    refine wpAnyS_takeL 0 rfl (by kernel_rfl) (by kernel_rfl) (by kernel_rfl) (fun _ _ _ H => H) (yieldsIf_move rfl _ rfl (.bool false) rfl) hS ?_
    simp only [Act.put, List.setIfInBounds_toArray, List.set_cons_zero, List.set_cons_succ]
    refine wpAnyS_takeL 1 (v := .bool true) rfl (by kernel_rfl) (by kernel_rfl) (by kernel_rfl) (fun _ _ _ H => H) (Or.inl ⟨by rfl, fun w' hw' => by go_simp⟩) hS ?_
    simp only [Act.put, List.setIfInBounds_toArray, List.set_cons_zero, List.set_cons_succ]
    refine wpAnyS_takeL 2 rfl (by kernel_rfl) (by kernel_rfl) (by kernel_rfl) (fun _ _ _ H => H) (yieldsIf_move rfl _ rfl (.bool true) rfl) hS ?_
    simp only [Act.put, List.setIfInBounds_toArray, List.set_cons_zero, List.set_cons_succ]
    refine wpAnyS_takeL 3 rfl (by kernel_rfl) (by kernel_rfl) (by kernel_rfl) (fun _ _ _ H => H) (yieldsIf_move rfl _ rfl (.bool true) rfl) hS ?_
    simp only [Act.put, List.setIfInBounds_toArray, List.set_cons_zero, List.set_cons_succ]
    refine wpAnyS_takeL 4 rfl (by kernel_rfl) (by kernel_rfl) (by kernel_rfl) (fun _ _ _ H => H) (yieldsIf_pick rfl _ _ _ rfl true rfl (.bool true) rfl) hS ?_
    simp only [Act.put, List.setIfInBounds_toArray, List.set_cons_zero, List.set_cons_succ]
    refine wpAnyS_takeL 5 rfl (by kernel_rfl) (by kernel_rfl) (by kernel_rfl) (fun _ _ _ H => H) (yieldsIf_move rfl _ rfl (.bool true) rfl) hS ?_
    simp only [Act.put, List.setIfInBounds_toArray, List.set_cons_zero, List.set_cons_succ]
    refine wpAnyS_takeL 6 rfl (by kernel_rfl) (by kernel_rfl) (by kernel_rfl) (fun _ _ _ H => H) (yieldsIf_move rfl _ rfl (.bool false) rfl) hS ?_
    simp only [Act.put, List.setIfInBounds_toArray, List.set_cons_zero, List.set_cons_succ]
    refine wpAnyS_takeL 7 (v := .bool true) rfl (by kernel_rfl) (by kernel_rfl) (by kernel_rfl) (fun _ _ _ H => H) (Or.inl ⟨by rfl, fun w' hw' => by go_simp⟩) hS ?_
    simp only [Act.put, List.setIfInBounds_toArray, List.set_cons_zero, List.set_cons_succ]
    refine wpAnyS_takeL 8 rfl (by kernel_rfl) (by kernel_rfl) (by kernel_rfl) (fun _ _ _ H => H) (yieldsIf_pick rfl _ _ _ rfl true rfl (.bool true) rfl) hS ?_
    simp only [Act.put, List.setIfInBounds_toArray, List.set_cons_zero, List.set_cons_succ]
    refine wpAnyS_takeL 9 rfl (by kernel_rfl) (by kernel_rfl) (by kernel_rfl) (fun _ _ _ H => H) (yieldsIf_move rfl _ rfl (.bool true) rfl) hS ?_
    simp only [Act.put, List.setIfInBounds_toArray, List.set_cons_zero, List.set_cons_succ]
    refine wpAnyS_takeL 10 rfl (by kernel_rfl) (by kernel_rfl) (by kernel_rfl) (fun _ _ _ H => H) (yieldsIf_move rfl _ rfl (.bool false) rfl) hS ?_
    simp only [Act.put, List.setIfInBounds_toArray, List.set_cons_zero, List.set_cons_succ]
    refine wpAnyS_takeL 11 (v := .bool true) rfl (by kernel_rfl) (by kernel_rfl) (by kernel_rfl) (fun _ _ _ H => H) (Or.inl ⟨by rfl, fun w' hw' => by go_simp⟩) hS ?_
    simp only [Act.put, List.setIfInBounds_toArray, List.set_cons_zero, List.set_cons_succ]
    refine wpAnyS_takeL 12 rfl (by kernel_rfl) (by kernel_rfl) (by kernel_rfl) (fun _ _ _ H => H) (yieldsIf_move rfl _ rfl (.bool true) rfl) hS ?_
    simp only [Act.put, List.setIfInBounds_toArray, List.set_cons_zero, List.set_cons_succ]
    refine wpAnyS_takeL 13 (v := undef) rfl (by kernel_rfl) (by kernel_rfl) (by kernel_rfl) (fun _ _ _ H => H) (Or.inr ⟨rfl, rfl⟩) hS ?_
    simp only [Act.put, List.setIfInBounds_toArray, List.set_cons_zero, List.set_cons_succ]
    refine wpAnyS_takeL 14 (v := undef) rfl (by kernel_rfl) (by kernel_rfl) (by kernel_rfl) (fun _ _ _ H => H) (Or.inr ⟨rfl, rfl⟩) hS ?_
    simp only [Act.put, List.setIfInBounds_toArray, List.set_cons_zero, List.set_cons_succ]
    refine wpAnyS_takeL 15 (v := undef) rfl (by kernel_rfl) (by kernel_rfl) (by kernel_rfl) (fun _ _ _ H => H) (Or.inr ⟨rfl, rfl⟩) hS ?_
    simp only [Act.put, List.setIfInBounds_toArray, List.set_cons_zero, List.set_cons_succ]
    refine wpAnyS_takeL 16 (v := undef) rfl (by kernel_rfl) (by kernel_rfl) (by kernel_rfl) (fun _ _ _ H => H) (Or.inr ⟨rfl, rfl⟩) hS ?_
    simp only [Act.put, List.setIfInBounds_toArray, List.set_cons_zero, List.set_cons_succ]
    refine wpAnyS_takeL 17 (v := undef) rfl (by kernel_rfl) (by kernel_rfl) (by kernel_rfl) (fun _ _ _ H => H) (Or.inr ⟨rfl, rfl⟩) hS ?_
    simp only [Act.put, List.setIfInBounds_toArray, List.set_cons_zero, List.set_cons_succ]
    refine wpAnyS_takeL 18 (v := undef) rfl (by kernel_rfl) (by kernel_rfl) (by kernel_rfl) (fun _ _ _ H => H) (Or.inr ⟨rfl, rfl⟩) hS ?_
    simp only [Act.put, List.setIfInBounds_toArray, List.set_cons_zero, List.set_cons_succ]
    refine wpAnyS_takeL 19 (v := undef) rfl (by kernel_rfl) (by kernel_rfl) (by kernel_rfl) (fun _ _ _ H => H) (Or.inr ⟨rfl, rfl⟩) hS ?_
    simp only [Act.put, List.setIfInBounds_toArray, List.set_cons_zero, List.set_cons_succ]
    refine wpAnyS_takeL 20 (v := undef) rfl (by kernel_rfl) (by kernel_rfl) (by kernel_rfl) (fun _ _ _ H => H) (Or.inr ⟨rfl, rfl⟩) hS ?_
    simp only [Act.put, List.setIfInBounds_toArray, List.set_cons_zero, List.set_cons_succ]
    refine wpAnyS_takeL 21 (v := undef) rfl (by kernel_rfl) (by kernel_rfl) (by kernel_rfl) (fun _ _ _ H => H) (Or.inr ⟨rfl, rfl⟩) hS ?_
    simp only [Act.put, List.setIfInBounds_toArray, List.set_cons_zero, List.set_cons_succ]
    refine wpAnyS_takeL 22 rfl (by kernel_rfl) (by kernel_rfl) (by kernel_rfl) (fun _ _ _ H => H) (yieldsIf_pick rfl _ _ _ rfl true rfl (.bool true) rfl) hS ?_
    simp only [Act.put, List.setIfInBounds_toArray, List.set_cons_zero, List.set_cons_succ]
    refine wpAnyS_takeL 23 rfl (by kernel_rfl) (by kernel_rfl) (by kernel_rfl) (fun _ _ _ H => H) (yieldsIf_pick rfl _ _ _ rfl true rfl (.bool true) rfl) hS ?_
    simp only [Act.put, List.setIfInBounds_toArray, List.set_cons_zero, List.set_cons_succ]
    refine wpAnyS_takeL 24 rfl (by kernel_rfl) (by kernel_rfl) (by kernel_rfl) (fun _ _ _ H => H) (yieldsIf_assign rfl _ rfl (.bool true) rfl) hS ?_
    simp only [Act.put, List.setIfInBounds_toArray, List.set_cons_zero, List.set_cons_succ]
    refine wpAnyS_done (by kernel_rfl) ?_ _
    refine aK _ _ ?_
    clear aK hS s5 O10 M
    go_wp2
    refine bodyPost_ret (results_tmp rfl _ _ _) ?_ ?_
    · rfl
    · exact ⟨rfl, BE⟩
  | some c =>
    have hc := HOU.out.symm
    have lc := (open_length hc).1
    rw [LU.out] at lc
    have bc := open_bytes' hc bK bN bU (by have := LU.out; omega)
    have eU : U = sealL K NN D c := (seal_open hc).symm
    replace O10 : OwL _ w10 v10 c := O10
    obtain ⟨pc, cc, hvc⟩ := O10.shape
    rw [lc, Nat.add_sub_cancel] at hvc
    subst hvc
    have sc := O10.sb
    have CC := Lib.hid (fun W h1 h2 => CS K NN D c U pd pc nd nb cd cc lK lN bK bN bD bc (by omega) (by omega) eU W h1 h2)
    clear O10 eU hc lc bc
    go_upto_region 14 with fail
    rename_i aK
    refine wp_region_Z (S := fun w' => SK w K NN w' ∧ SB w' (.slice (some ⟨gu, 0, none⟩) (nb + 16) cu) U) 24 (by kernel_rfl) ?_
    replace M := M.drew
    replace s5 := s5.drew
    replace sc := sc.drew
    generalize w10.drew = V2 at M s5 sc ⊢
    have hS : SK w K NN V2 ∧ SB V2 (.slice (some ⟨gu, 0, none⟩) (nb + 16) cu) U := ⟨M, s5⟩
    refine wpAnyZ_takeL 0 rfl (by kernel_rfl) (by kernel_rfl) (by kernel_rfl) (by kernel_rfl) (by kernel_rfl) (fun _ _ _ H => H) (yieldsIf_move rfl _ rfl (.bool false) rfl) hS ?_
    simp only [Act.put, List.setIfInBounds_toArray, List.set_cons_zero, List.set_cons_succ]
    refine wpAnyZ_takeL 1 (v := .bool true) rfl (by kernel_rfl) (by kernel_rfl) (by kernel_rfl) (by kernel_rfl) (by kernel_rfl) (fun _ _ _ H => H) (Or.inl ⟨by rfl, fun w' hw' => by go_simp⟩) hS ?_
    simp only [Act.put, List.setIfInBounds_toArray, List.set_cons_zero, List.set_cons_succ]
    refine wpAnyZ_takeL 2 rfl (by kernel_rfl) (by kernel_rfl) (by kernel_rfl) (by kernel_rfl) (by kernel_rfl) (fun _ _ _ H => H) (yieldsIf_move rfl _ rfl (.bool true) rfl) hS ?_
    simp only [Act.put, List.setIfInBounds_toArray, List.set_cons_zero, List.set_cons_succ]
    refine wpAnyZ_takeL 3 rfl (by kernel_rfl) (by kernel_rfl) (by kernel_rfl) (by kernel_rfl) (by kernel_rfl) (fun _ _ _ H => H) (yieldsIf_move rfl _ rfl (.bool true) rfl) hS ?_
    simp only [Act.put, List.setIfInBounds_toArray, List.set_cons_zero, List.set_cons_succ]
    refine wpAnyZ_takeL 4 rfl (by kernel_rfl) (by kernel_rfl) (by kernel_rfl) (by kernel_rfl) (by kernel_rfl) (fun _ _ _ H => H) (yieldsIf_pick rfl _ _ _ rfl true rfl (.bool true) rfl) hS ?_
    simp only [Act.put, List.setIfInBounds_toArray, List.set_cons_zero, List.set_cons_succ]
    refine wpAnyZ_takeL 5 rfl (by kernel_rfl) (by kernel_rfl) (by kernel_rfl) (by kernel_rfl) (by kernel_rfl) (fun _ _ _ H => H) (yieldsIf_move rfl _ rfl (.bool true) rfl) hS ?_
    simp only [Act.put, List.setIfInBounds_toArray, List.set_cons_zero, List.set_cons_succ]
    refine wpAnyZ_takeL 6 rfl (by kernel_rfl) (by kernel_rfl) (by kernel_rfl) (by kernel_rfl) (by kernel_rfl) (fun _ _ _ H => H) (yieldsIf_move rfl _ rfl (.bool false) rfl) hS ?_
    simp only [Act.put, List.setIfInBounds_toArray, List.set_cons_zero, List.set_cons_succ]
    refine wpAnyZ_takeL 7 (v := .bool true) rfl (by kernel_rfl) (by kernel_rfl) (by kernel_rfl) (by kernel_rfl) (by kernel_rfl) (fun _ _ _ H => H) (Or.inl ⟨by rfl, fun w' hw' => by go_simp⟩) hS ?_
    simp only [Act.put, List.setIfInBounds_toArray, List.set_cons_zero, List.set_cons_succ]
    refine wpAnyZ_takeL 8 rfl (by kernel_rfl) (by kernel_rfl) (by kernel_rfl) (by kernel_rfl) (by kernel_rfl) (fun _ _ _ H => H) (yieldsIf_pick rfl _ _ _ rfl true rfl (.bool true) rfl) hS ?_
    simp only [Act.put, List.setIfInBounds_toArray, List.set_cons_zero, List.set_cons_succ]
    refine wpAnyZ_takeL 9 rfl (by kernel_rfl) (by kernel_rfl) (by kernel_rfl) (by kernel_rfl) (by kernel_rfl) (fun _ _ _ H => H) (yieldsIf_move rfl _ rfl (.bool true) rfl) hS ?_
    simp only [Act.put, List.setIfInBounds_toArray, List.set_cons_zero, List.set_cons_succ]
    refine wpAnyZ_takeL 10 rfl (by kernel_rfl) (by kernel_rfl) (by kernel_rfl) (by kernel_rfl) (by kernel_rfl) (fun _ _ _ H => H) (yieldsIf_move rfl _ rfl (.bool true) rfl) hS ?_
    simp only [Act.put, List.setIfInBounds_toArray, List.set_cons_zero, List.set_cons_succ]
    refine wpAnyZ_takeL 11 (v := .bool false) rfl (by kernel_rfl) (by kernel_rfl) (by kernel_rfl) (by kernel_rfl) (by kernel_rfl) (fun _ _ _ H => H) (Or.inl ⟨by rfl, fun w' hw' => by go_simp⟩) hS ?_
    simp only [Act.put, List.setIfInBounds_toArray, List.set_cons_zero, List.set_cons_succ]
    refine wpAnyZ_takeL 12 rfl (by kernel_rfl) (by kernel_rfl) (by kernel_rfl) (by kernel_rfl) (by kernel_rfl) (fun _ _ _ H => H) (yieldsIf_move rfl _ rfl (.bool false) rfl) hS ?_
    simp only [Act.put, List.setIfInBounds_toArray, List.set_cons_zero, List.set_cons_succ]
    refine wpAnyZ_takeL 13 rfl (by kernel_rfl) (by kernel_rfl) (by kernel_rfl) (by kernel_rfl) (by kernel_rfl) (fun _ _ _ H => H) (show YieldsIf _ _ _ _ (Value.agg (Iv .u8 (NI K))) _ from yieldsIf_row_wanted rfl 22 _ rfl (w.heap.size) rfl 22 _ _ (fun _ h => h.1.k) Try.underlying22 rfl (info_n _ lK)) hS ?_
    simp only [Act.put, List.setIfInBounds_toArray, List.set_cons_zero, List.set_cons_succ]
    refine wpAnyZ_takeL 14 rfl (by kernel_rfl) (by kernel_rfl) (by kernel_rfl) (by kernel_rfl) (by kernel_rfl) (fun _ _ _ H => H) (show YieldsIf _ _ _ _ (Value.agg (Iv .u8 (NI NN))) _ from yieldsIf_row_wanted rfl 23 _ rfl (w.heap.size + 1) rfl 23 _ _ (fun _ h => h.1.n) Try.underlying23 rfl (info_12 _ lN)) hS ?_
    simp only [Act.put, List.setIfInBounds_toArray, List.set_cons_zero, List.set_cons_succ]
    refine wpAnyZ_takeL 15 rfl (by kernel_rfl) (by kernel_rfl) (by kernel_rfl) (by kernel_rfl) (by kernel_rfl) (fun _ _ _ H => H) (yieldsIf_move rfl _ rfl (.slice pd nd cd) rfl) hS ?_
    simp only [Act.put, List.setIfInBounds_toArray, List.set_cons_zero, List.set_cons_succ]
    refine wpAnyZ_takeL 16 rfl (by kernel_rfl) (by kernel_rfl) (by kernel_rfl) (by kernel_rfl) (by kernel_rfl) (fun _ _ _ H => H) (yieldsIf_move rfl _ rfl (.slice pc nb cc) rfl) hS ?_
    simp only [Act.put, List.setIfInBounds_toArray, List.set_cons_zero, List.set_cons_succ]
    refine wpAnyZ_takeL 19 rfl (by kernel_rfl) (by kernel_rfl) (by kernel_rfl) (by kernel_rfl) (by kernel_rfl) (fun _ _ _ H => H) (yieldsIf_move rfl _ rfl (.slice (some ⟨gu, 0, none⟩) (nb + 16) cu) rfl) hS ?_
    simp only [Act.put, List.setIfInBounds_toArray, List.set_cons_zero, List.set_cons_succ]
    refine wpAnyZ_takeL 20 rfl (by kernel_rfl) (by kernel_rfl) (by kernel_rfl) (by kernel_rfl) (by kernel_rfl) (fun _ _ _ H => H) (yieldsIf_conv rfl _ rfl (.slice (some ⟨gu, 0, none⟩) (nb + 16) cu) rfl U (fun w' h => h.2)) hS ?_
    simp only [Act.put, List.setIfInBounds_toArray, List.set_cons_zero, List.set_cons_succ]
    refine zstepG 17 rfl rfl (by kernel_rfl) ?_
    unfold Oper.wp execOp
    go_simp
    refine (CC.out _ (hd.below M.bel) sc).mono ?_
    rintro _ w11 ⟨rv, rfl, OR, bw⟩
    replace M := M.below bw
    replace s5 := s5.below bw
    have sr := OR.sb
    clear hS bw OR CC sc
    have hS : SK w K NN w11 ∧ SB w11 (.slice (some ⟨gu, 0, none⟩) (nb + 16) cu) U := ⟨M, s5⟩
    refine ⟨hS, ?_⟩
    refine zstepG 18 rfl rfl (by kernel_rfl) ?_
    refine wp_conv _ _ rfl rfl rv rfl U sr ?_
    refine ⟨fun _ => hS, ?_⟩
    simp only [Act.put, List.setIfInBounds_toArray, List.set_cons_zero, List.set_cons_succ]
    refine wpAnyZ_takeL 21 rfl (by kernel_rfl) (by kernel_rfl) (by kernel_rfl) (by kernel_rfl) (by kernel_rfl) (fun _ _ _ H => H) (yieldsIf_strB rfl _ _ rfl U U rfl rfl rfl) hS ?_
    simp only [Act.put, List.setIfInBounds_toArray, List.set_cons_zero, List.set_cons_succ]
    refine wpAnyZ_takeL 22 rfl (by kernel_rfl) (by kernel_rfl) (by kernel_rfl) (by kernel_rfl) (by kernel_rfl) (fun _ _ _ H => H) (yieldsIf_pick rfl _ _ _ rfl false rfl (.bool true) rfl) hS ?_
    simp only [Act.put, List.setIfInBounds_toArray, List.set_cons_zero, List.set_cons_succ]
    refine wpAnyZ_takeL 23 rfl (by kernel_rfl) (by kernel_rfl) (by kernel_rfl) (by kernel_rfl) (by kernel_rfl) (fun _ _ _ H => H) (yieldsIf_pick rfl _ _ _ rfl true rfl (.bool true) rfl) hS ?_
    simp only [Act.put, List.setIfInBounds_toArray, List.set_cons_zero, List.set_cons_succ]
    refine zstep 24 rfl rfl (by kernel_rfl) ?_
    unfold Oper.wp execOp
    go_simp
    refine wpAnyZ_done (by kernel_rfl) ?_ _
    refine aK _ _ ?_
    have BE := M.bel
    clear aK hS M s5 sr
    go_wp2
    refine bodyPost_ret (results_tmp rfl _ _ _) ?_ ?_
    · rfl
    · exact ⟨rfl, BE⟩
end Go.Proofs.Yteaddadmdjjfaaa
namespace Go.Proofs.Yteaddadmdjjfaaa
open Go.ChangeShapes Go.WideShapes Go.ChangeAt Go.RowKit

theorem trodAll_six {H : Type} {enc : TypeId × Value → H} {P : Program} {w : World} {base : Nat} {spare : Nat → Bool} {held : Bool} {t0 t1 t2 t3 t4 t5 : TypeId} {args : Array Value} {ds : List (DataW H)} {ps : List MemPlace} (h : DataW.TrodAll enc P w base spare held [t0, t1, t2, t3, t4, t5] args.toList ds ps) :
    ∃ v0 v1 v2 v3 v4 v5 d0 d1 d2 d3 d4 d5 p0 p1 p2 p3 p4 p5, args = #[v0, v1, v2, v3, v4, v5] ∧ ds = [d0, d1, d2, d3, d4, d5] ∧ ps = p0 ++ (p1 ++ (p2 ++ (p3 ++ (p4 ++ p5)))) ∧ DataW.Trod enc P w base spare held t0 v0 d0 p0 ∧ DataW.Trod enc P w base spare held t1 v1 d1 p1 ∧ DataW.Trod enc P w base spare held t2 v2 d2 p2 ∧ DataW.Trod enc P w base spare held t3 v3 d3 p3 ∧ DataW.Trod enc P w base spare held t4 v4 d4 p4 ∧ DataW.Trod enc P w base spare held t5 v5 d5 p5 := by
  obtain ⟨v0, r0, d0, e0, p0, q0, hargs, rfl, rfl, h0, h⟩ := trodAll_cons h
  obtain ⟨v1, r1, d1, e1, p1, q1, rfl, rfl, rfl, h1, h⟩ := trodAll_cons h
  obtain ⟨v2, r2, d2, e2, p2, q2, rfl, rfl, rfl, h2, h⟩ := trodAll_cons h
  obtain ⟨v3, r3, d3, e3, p3, q3, rfl, rfl, rfl, h3, h⟩ := trodAll_cons h
  obtain ⟨v4, r4, d4, e4, p4, q4, rfl, rfl, rfl, h4, h⟩ := trodAll_cons h
  obtain ⟨v5, r5, d5, e5, p5, q5, rfl, rfl, rfl, h5, h⟩ := trodAll_cons h
  obtain ⟨rfl, rfl, rfl⟩ := trodAll_nil h
  exact ⟨v0, v1, v2, v3, v4, v5, d0, d1, d2, d3, d4, d5, p0, p1, p2, p3, p4, p5, by cases args; simp_all, rfl, by simp, h0, h1, h2, h3, h4, h5⟩
theorem trodAll_mk6 {H : Type} {enc : TypeId × Value → H} {P : Program} {w : World} {base : Nat} {spare : Nat → Bool} {held : Bool} {t0 t1 t2 t3 t4 t5 : TypeId} {v0 v1 v2 v3 v4 v5 : Value} {d0 d1 d2 d3 d4 d5 : DataW H} {p0 p1 p2 p3 p4 p5 : List MemPlace} (h0 : DataW.Trod enc P w base spare held t0 v0 d0 p0) (h1 : DataW.Trod enc P w base spare held t1 v1 d1 p1)
    (h2 : DataW.Trod enc P w base spare held t2 v2 d2 p2) (h3 : DataW.Trod enc P w base spare held t3 v3 d3 p3) (h4 : DataW.Trod enc P w base spare held t4 v4 d4 p4) (h5 : DataW.Trod enc P w base spare held t5 v5 d5 p5) : DataW.TrodAll enc P w base spare held [t0, t1, t2, t3, t4, t5] [v0, v1, v2, v3, v4, v5] [d0, d1, d2, d3, d4, d5] (p0 ++ (p1 ++ (p2 ++ (p3 ++ (p4 ++ p5))))) :=
  ⟨p0, p1 ++ (p2 ++ (p3 ++ (p4 ++ p5))), h0, trodAll_mk5 h1 h2 h3 h4 h5, rfl⟩
theorem own : ownKnob Try.prog.godebug = none := by kernel_rfl
theorem nat_of_u16 {n : Int} (h : (Lit.int .u16 n).wf = true) : ∃ k : Nat, n = ((k : Nat) : Int) ∧ k < 65536 := by
  simp [Lit.wf, IntKind.min, IntKind.max, IntKind.signed, IntKind.bits] at h
  exact ⟨n.toNat, by omega, by omega⟩
theorem nat_of_u8 {n : Int} (h : (Lit.int .u8 n).wf = true) : ∃ k : Nat, n = ((k : Nat) : Int) ∧ k < 256 := by
  simp [Lit.wf, IntKind.min, IntKind.max, IntKind.signed, IntKind.bits] at h
  exact ⟨n.toNat, by omega, by omega⟩
set_option maxHeartbeats 1000000 in
set_option maxRecDepth 100000 in
theorem turned_lifted  (os : Os) (started : os.Started) (H : Type) (enc : TypeId × Value → H) :
    ReturnsInHanded {} Try.checked os 5 .any (Rows.gcmTurnedSpec.pre6 enc Try.prog Try.f5 Rows.gcmTurnedRow.domain false) (Rows.gcmTurnedSpec.post enc Try.prog Try.f5 false true false false) := by
  refine returnsInHanded_of_change (C := Try.checked) own started (by kernel_rfl) Try.func5
    (ChangeSpec.witness6 (enc := enc) (C := Try.checked) false ⟨#[], #[.agg (Iv .u8 (NI (List.replicate 16 0))), .agg (Iv .u8 (NI (List.replicate 12 0))), .slice none 0 0, .slice none 0 0, .int .u16 0, .int .u8 0], []⟩ 8 (by kernel_rfl) (by kernel_rfl) (by kernel_rfl) (by kernel_rfl)) ?_
  intro W base args ds gs before hval0 hW _ _
  have hval : ∀ (j : Nat) t v, Try.f5.params[j]? = some t → args[j]? = some v → Value.okWide Try.prog W .any base t v := hval0
  have hW' := hW
  obtain ⟨p, q, hA0, hV, rfl, _, _⟩ := hW
  have hA : DataW.TrodAll enc Try.prog W 0 (fun _ => true) true Try.f5.params.toList args.toList ds p := hA0
  rw [Try.params5] at hA hval
  obtain ⟨v0, v1, v2, v3, v4, v5, d0, d1, d2, d3, d4, d5, p0, p1, p2, p3, p4, p5, rfl, rfl, rfl, h0, h1, h2, h3, h4, h5⟩ := trodAll_six hA
  obtain ⟨rfl, rfl⟩ := trodVars_none hV
  obtain ⟨l0, rfl, rfl, rfl, hl0, hb0⟩ := open_b16 (hval 0 22 v0 rfl rfl) h0
  obtain ⟨l1, rfl, rfl, rfl, hl1, hb1⟩ := open_b12 (hval 1 23 v1 rfl rfl) h1
  obtain ⟨pt2, c2, l2, rfl, S2, hb2, again2⟩ := open_bytes (hval 2 24 v2 rfl rfl) h2
  obtain ⟨pt3, c3, l3, rfl, S3, hb3, again3⟩ := open_bytes (hval 3 24 v3 rfl rfl) h3
  obtain ⟨m4, rfl, rfl, rfl, hm4⟩ := open_int Try.underlying33 (hval 4 33 v4 rfl rfl) h4
  obtain ⟨n4, rfl, hn4⟩ := nat_of_u16 hm4
  obtain ⟨m5, rfl, rfl, rfl, hm5⟩ := open_int Try.underlying5 (hval 5 5 v5 rfl rfl) h5
  obtain ⟨n5, rfl, hn5⟩ := nat_of_u8 hm5
  clear hA0 hval0
  refine (turned_c seal_c open_c l0 l1 l2 l3 hl0 hl1 hb0 hb1 hb2 hb3 pt2 pt3 _ _ c2 c3 n4 n5 hn4 hn5 W S2 S3).mono fun e W' ⟨he, hb⟩ => ?_
  subst he
  exact ⟨_, rfl, post_below2 (pa := [] ++ ([] ++ (p2 ++ (p3 ++ ([] ++ ([])))))) (pv := []) hW' (fun _ _ _ => trodAll_mk1 (shut_bool Try.underlying4 _)) (fun sp hsp => trodAll_mk6 (shut_b16 l0 hl0 hb0) (shut_b12 l1 hl1 hb1) (again2 W' hb sp (fun x hx => hsp x (by simp [hx]))) (again3 W' hb sp (fun x hx => hsp x (by simp [hx]))) (shut_int Try.underlying33 hm4) (shut_int Try.underlying5 hm5)) (fun _ _ => rfl) (by simp) hb (ok_one (by kernel_rfl) rfl (okWide_bool_mk Try.underlying4 _))⟩

theorem gcmTurned_holds  : Rows.GcmTurnedSaid :=
  OpenClaim.holds_of_wide 5 Try.f5 rfl rfl rfl rfl rfl rfl rfl ⟨rfl, rfl, rfl, rfl, rfl⟩ rfl rfl rfl rfl rfl (by kernel_rfl) Try.func5 (by kernel_rfl)
    (of_decide_eq_true (by kernel_rfl)) (by unfold Func.isWrapper; first | (rw [if_pos (by decide +kernel)]; kernel_rfl) | (rw [if_neg (by decide +kernel)]; exact ⟨rfl, rfl⟩))
    (fun os started H enc _ => turned_lifted  os started H enc)
#print axioms gcmTurned_holds
end Go.Proofs.Yteaddadmdjjfaaa
