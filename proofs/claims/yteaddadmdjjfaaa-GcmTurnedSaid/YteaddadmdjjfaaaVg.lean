/- The law GcmOwn, by contract of Seal and Open (printed by genvg.py). -/
import Derived.Test.YteaddadmdjjfaaaVe
import Derived.Test.YteaddadmdjjfaaaWk
namespace Go.Proofs.Yteaddadmdjjfaaa
open Go.RowKit

/-! Noughts behind bytes. -/
def zB (k : Nat) : List Value := vals (List.replicate k 0)
theorem zB_length (k : Nat) : (zB k).length = k := by simp [zB, vals]
theorem zB_one (k : Nat) : ∀ v ∈ zB k, v.oneCell' = true := fun u hu => by
  unfold zB vals at hu
  obtain ⟨_, _, rfl⟩ := List.mem_map.1 hu
  rfl
theorem zeroCells_bytes (m : Nat) : Builtin.zeroCells #[Value.int .u8 0] m = (zB m).toArray := by
  apply Array.ext
  · simp [Builtin.zeroCells, zB, vals]
  · intro j h1 h2
    simp [Builtin.zeroCells, zB, vals, Nat.mod_one]
theorem noughts_room (w : World) (ty : TypeId) (g n cap k : Nat) (cur : Array Value) (hg : w.heap[g]? = some (.cells cur 5 (0, 0))) (hcs : cur.size = cap) (hroom : n + k ≤ cap) (hk : k < 256) (hk0 : 0 < k) :
    (Builtin.append_ #[24, 3] ty #[.slice (some ⟨g, 0, none⟩) n cap, .int .i64 k]).run Try.prog w = .ok (.slice (some ⟨g, 0, none⟩) (n + k) cap) (w.setRow g (cur.toList.take n ++ zB k ++ cur.toList.drop (n + k)).toArray) := by
  obtain ⟨i, hi, hs, hy, hz⟩ := info_u8
  have bl := zB_length k
  have wr : IntKind.i64.wrap (k : Int) = (k : Int) := by rw [IntKind.wrap_i64]; omega
  have h48 : ¬ (281474976710656 < (k : Int)) := by omega
  have h0 : ¬ ((k : Int) < 0) := by omega
  have hst := run_storeCells_at Try.prog g n 5 (zB k) 0 cur w hg (by rw [bl]; omega) (zB_one k)
  simp only [Nat.add_zero, bl] at hst
  have zc1 : (Value.int .u8 0).cells = #[Value.int .u8 0] := rfl
  have hne : ¬ k = 0 := by omega
  simp [Builtin.append_, run_underlying Try.underlying24, run_underlying Try.underlying3, sizeOf, typeInfo, zeroValue, hi, hs, hy, hz, asInt, asIntOf, wr, h48, h0, hroom, hne, zc1, zeroCells_bytes, Addr.add_lit, hst]
theorem noughts_grow (w : World) (ty : TypeId) (g n cap k : Nat) (cur : Array Value) (_hg : w.heap[g]? = some (.cells cur 5 (0, 0))) (xs : List Value) (hx : xs.length = n) (hcell : ∀ j u, xs[j]? = some u → w.cell? ((⟨g, 0, none⟩ : Addr).add j) = some u) (hroom : cap < n + k) (hnc : n ≤ cap) (hk : k < 256) (hnk : n + k ≤ 1000) :
    (Builtin.append_ #[24, 3] ty #[.slice (some ⟨g, 0, none⟩) n cap, .int .i64 k]).run Try.prog w = .ok (.slice (some ⟨w.heap.size, 0, none⟩) (n + k) (grownCap w (n + k) cap 5))
      (w.drew.alloc (.cells (xs.toArray ++ (zB k).toArray ++ (zB (grownCap w (n + k) cap 5 - (n + k))).toArray) 5)) := by
  obtain ⟨i, hi, hs, hy, hz⟩ := info_u8
  have wr : IntKind.i64.wrap (k : Int) = (k : Int) := by rw [IntKind.wrap_i64]; omega
  have h48 : ¬ (281474976710656 < (k : Int)) := by omega
  have h0 : ¬ ((k : Int) < 0) := by omega
  have hn : ¬ (n + k ≤ cap) := by omega
  have h63' : ¬ (9223372036854775807 < ((n : Int) + (k : Int))) := by omega
  have zc1 : (Value.int .u8 0).cells = #[Value.int .u8 0] := rfl
  have hcapn : Builtin.nextslicecap (n + k) cap ≤ 281474976710656 := by
    have := growslice_fits (need := n + k) (old := cap) (bytes := 1) (by omega) (by omega)
    omega
  have h48' : ¬ (281474976710656 < Builtin.nextslicecap (n + k) cap) := by omega
  have hfo := run_firstCells_some (P := Try.prog) w.drew i.size n ⟨g, 0, none⟩ n cap xs (by rw [hs, hx, Nat.mul_one]) (by simpa using hcell)
  rw [hs] at hfo
  by_cases hne : k = 0
  · omega
  · simp [Builtin.append_, run_underlying Try.underlying24, run_underlying Try.underlying3, sizeOf, typeInfo, zeroValue, hi, hs, hy, hz, asInt, asIntOf, wr, h48, h0, hn, hne, h63', h48', Question.forced, hfo, newRow, grownCap, zc1, zeroCells_bytes]
theorem append_noughts (B : Nat) (a w : World) (ty : TypeId) (v : Value) (l : List Nat) (hv : OwL B w v l) (hsome : v.ownBlock.isSome = true) (k : Nat) (hlk : l.length + k ≤ 1000) (hk : k < 256) (hk0 : 0 < k) (hB : B ≤ w.heap.size) (hb : Below B a w) :
    ∃ v' w', (Builtin.append_ #[24, 3] ty #[v, .int .i64 k]).run Try.prog w = .ok v' w' ∧ OwL B w' v' (l ++ List.replicate k 0) ∧ Below B a w' := by
  obtain ⟨hl, hr⟩ := hv
  rcases hr with ⟨rfl, _⟩ | ⟨g, cap, cur, rfl, hBg, hg, hnc, hcm, hcs, htake⟩
  · cases hsome
  have hown : w.ownsRow B 5 1 (.slice (some ⟨g, 0, none⟩) l.length cap) l.length (vals l) := ⟨hl, .inr ⟨g, cap, cur, rfl, hBg, hg, hnc, hcm, hcs, htake⟩⟩
  rw [Nat.mul_one] at hcs htake
  have bl := zB_length k
  have blf := vals_length l
  have ev : vals (l ++ List.replicate k 0) = vals l ++ zB k := vals_append _ _
  have el : (l ++ List.replicate k 0).length = l.length + k := by rw [List.length_append, List.length_replicate]
  by_cases hroom : l.length + k ≤ cap
  · refine ⟨_, _, noughts_room w ty g l.length cap k cur hg hcs hroom hk hk0, ⟨by rw [vals_length, Nat.mul_one], .inr ⟨g, cap, _, by rw [el], hBg, setRow_heap w g cur _ 5 _ hg, by rw [el]; exact hroom, hcm, ?_, ?_⟩⟩, below_setRow hb hBg _⟩
    · simp only [List.size_toArray, List.length_append, List.length_take, List.length_drop, Array.length_toList, bl]
      omega
    · rw [htake, ev, Nat.mul_one, el]
      simp only [List.append_assoc]
      rw [← List.append_assoc]
      refine List.take_left' ?_
      rw [List.length_append, bl, blf]
  · have hge := grownCap_ge w (l.length + k) cap 5
    have hcm2 : grownCap w (l.length + k) cap 5 ≤ maxLen := grownCap_le_maxLen w (l.length + k) cap 5 (by simp only [maxLen]; omega)
    refine ⟨_, _, noughts_grow w ty g l.length cap k cur hg (vals l) blf (hown.cells (g := g) rfl) (by omega) hnc hk hlk, ⟨by rw [vals_length, Nat.mul_one], .inr ⟨w.heap.size, _, _, by rw [el], hB, heap_alloc_new w.drew _, by rw [el]; exact hge, hcm2, ?_, ?_⟩⟩, (below_drew hb).alloc hB _⟩
    · simp only [Array.size_append, List.size_toArray, vals_length, zB_length]
      omega
    · rw [ev, Nat.mul_one, el]
      simp only [Array.toList_append]
      refine List.take_left' ?_
      rw [List.length_append, bl, blf]
/-- Forty noughts. -/
def n40 : List Nat := List.replicate 40 0
theorem n40_length : n40.length = 40 := List.length_replicate
/-- 'append(append([]byte{}, m...), make([]byte, 40)...)': a row of its own. -/
theorem own_room (B : Nat) (W : World) (t1 t2 : TypeId) (x : Value) (m : List Nat) (hx : SB W x m) (hm : m.length ≤ 900) (_hB : B ≤ W.heap.size) :
    ∃ v1 w1, (Builtin.append_ #[24, 24] t1 #[.slice (some ⟨W.heap.size, 0, none⟩) 0 0, x]).run Try.prog (W.alloc (.cells #[] 5)) = .ok v1 w1 ∧
      ∃ g c w2, (Builtin.append_ #[24, 3] t2 #[v1, .int .i64 40]).run Try.prog w1 = .ok (.slice (some ⟨g, 0, none⟩) (m.length + 40) c) w2 ∧ m.length + 40 ≤ c ∧ W.heap.size ≤ g ∧ BA w2 g 0 (m ++ n40) ∧ Below W.heap.size W w2 := by
  have b0 := (Below.refl W.heap.size W).alloc (Nat.le_refl _) (.cells #[] 5)
  have o0 := OwL.new W.heap.size W [] (Nat.le_refl _) (Nat.zero_le _)
  obtain ⟨v1, w1, h1, o1, g1, e1⟩ := append_sb W.heap.size _ t1 _ x [] m o0 (hx.below b0) (by simp only [List.length_nil]; omega) b0.size
  rw [List.nil_append] at o1
  have b1 := below_grown' b0 g1 (fun j e => by have e' := Option.some.inj e; dsimp only at e'; omega) b0.size
  have s1 : v1.ownBlock.isSome = true := by
    rcases e1 with e1 | e1 <;> rw [e1] <;> rfl
  obtain ⟨v2, w2, h2, o2, b2⟩ := append_noughts W.heap.size W w1 t2 v1 m o1 s1 40 (by omega) (by omega) (by omega) b1.size b1
  rcases o2.row with ⟨_, h0⟩ | ⟨g, c, rfl, hg, hc, _, A, _⟩
  · have := congrArg List.length h0
    rw [List.length_append, List.length_replicate] at this
    simp at this
  · rw [List.length_append, List.length_replicate] at h2 hc
    exact ⟨v1, w1, h1, g, c, w2, h2, hc, hg, A, b2⟩
/-- What stands in GcmOwn. -/
structure OWM (w0 : World) (K NN : List Nat) (g1 g2 : Nat) (b D : List Nat) (w : World) : Prop where
  s : SK w0 K NN w
  i : BA w g1 0 (b ++ n40)
  y : BA w g2 0 (D ++ n40)
section
variable {w0 w w1 : World} {K NN b D : List Nat} {g1 g2 : Nat}
theorem OWM.below (H : OWM w0 K NN g1 g2 b D w) (c : Below w.heap.size w w1) : OWM w0 K NN g1 g2 b D w1 := ⟨H.s.below c, H.i.below c, H.y.below c⟩
theorem OWM.sb1 (H : OWM w0 K NN g1 g2 b D w) {n c : Nat} (hn : n = b.length) (hc : n + 40 ≤ c) : SB w (.slice (some ⟨g1, 0, none⟩) n c) b := by
  have := H.i.take b.length
  rw [List.take_left'  rfl] at this
  exact SB.of_ba' this hn (by omega)
theorem OWM.sb2 (H : OWM w0 K NN g1 g2 b D w) {n c : Nat} (hn : n = D.length) (hc : n + 40 ≤ c) : SB w (.slice (some ⟨g2, 0, none⟩) n c) D := by
  have := H.y.take D.length
  rw [List.take_left' rfl] at this
  exact SB.of_ba' this hn (by omega)
end
theorem nought_at {w : World} {g n : Nat} {l : List Nat} (h : BA w g 0 (l ++ n40)) (hn : n = l.length) (i : Nat) (hi : i < 40) : w.cell? ⟨g, n + i, none⟩ = some (.int .u8 0) := by
  have hl : n + i < (l ++ n40).length := by rw [List.length_append, n40_length]; omega
  have := h.cell (n + i) hl
  rw [Nat.zero_add] at this
  rw [this, List.getElem_append_right (by omega)]
  unfold n40
  rw [List.getElem_replicate]
  rfl
/-- A row of n bytes of whatever values. -/
def AnyB (w : World) (n : Nat) (p : Option Addr) : Prop := n = 0 ∨ ∃ g cur, p = some ⟨g, 0, none⟩ ∧ Blk w g 5 cur ∧ ∀ j, j < n → ∃ x : Nat, x < 256 ∧ cur[j]? = some (.int .u8 (x : Int))
theorem OwL.any {B : Nat} {w : World} {p : Option Addr} {n c : Nat} {l : List Nat} (h : OwL B w (.slice p n c) l) (bl : ∀ x ∈ l, x < 256) : AnyB w n p := by
  rcases h.row with ⟨e, _⟩ | ⟨g, cap, e, _, _, _, A, cur, K, _⟩
  · simp only [Value.slice.injEq] at e
    exact Or.inl e.2.1
  · simp only [Value.slice.injEq] at e
    obtain ⟨rfl, rfl, rfl⟩ := e
    refine Or.inr ⟨g, cur, rfl, K, fun j hj => ⟨l[j], bl _ (List.getElem_mem hj), ?_⟩⟩
    have := A.cell j hj
    rw [Blk.cell K, Nat.zero_add] at this
    exact this
set_option maxHeartbeats 8000000 in
set_option maxRecDepth 100000 in
theorem own_c (CS : SealC) (CO : OpenC) (K NN D b : List Nat) (lK : K.length = 16) (lN : NN.length = 12) (bK : ∀ x ∈ K, x < 256) (bN : ∀ x ∈ NN, x < 256) (bD : ∀ x ∈ D, x < 256) (bb : ∀ x ∈ b, x < 256)
    (pd pb : Option Addr) (nd nb cd cb : Nat) (w : World) (hd : SB w (.slice pd nd cd) D) (hb : SB w (.slice pb nb cb) b) :
    Calls Try.prog 7 #[.agg (Iv .u8 (NI K)), .agg (Iv .u8 (NI NN)), .slice pd nd cd, .slice pb nb cb] w fun e w' => e = .returned (.bool true) ∧ Below w.heap.size w w' := by
  have AW := Lib.hid (gawake_c CS)
  have eb := hb.len.1
  have ed := hd.len.1
  have EB := Lib.hid eb
  have ED := Lib.hid ed
  clear eb ed
  go_enter Try.func7, Try.ntmps7
  go_wp2_with fail
  refine (AW.out _).mono ?_
  rintro _ w1 ⟨rfl, b1⟩
  have k1 := ((Below.refl w.heap.size w).alloc (Nat.le_refl _) (.cells (Iv .u8 (NI K)) 22)).alloc (by simp) (.cells (Iv .u8 (NI NN)) 23)
  have M : SK w K NN w1 := SK.below ⟨(Blk.new w 22 (Iv .u8 (NI K))).alloc _, Blk.new' (by simp) _ (Iv .u8 (NI NN)), k1⟩ b1
  clear AW b1 k1
  have zM := M.n.lt
  by_cases h1 : 200 < nd
  · have h2 : (200 : Int) < (nd : Int) := by omega
    go_wp2
    go_ret
    exact ⟨rfl, M.bel⟩
  have h2 : ¬ (200 : Int) < (nd : Int) := by omega
  by_cases h3 : 200 < nb
  · have h4 : (200 : Int) < (nb : Int) := by omega
    go_wp2
    go_ret
    exact ⟨rfl, M.bel⟩
  have h4 : ¬ (200 : Int) < (nb : Int) := by omega
  obtain ⟨S, hS⟩ : ∃ S, S = sealL K NN D b := ⟨_, rfl⟩
  have lS : S.length = nb + 16 := by rw [hS, sealL_length, EB.out]
  have bS : ∀ x ∈ S, x < 256 := by rw [hS]; exact sealL_bytes bK bN bb (by have := EB.out; omega)
  have eO : some b = openL K NN D S := by rw [hS]; exact (open_seal K NN D b).symm
  have C1 := Lib.hid (fun pd pb cd cb W h1 h2 => CS K NN D b S pd pb nd nb cd cb lK lN bK bN bD bb (by omega) (by omega) hS W h1 h2)
  have C2 := Lib.hid (fun pd ps cd cs W h1 h2 => CO K NN D S (some b) pd ps nd (nb + 16) cd cs lK lN bK bN bD bS (by omega) (by omega) eO W h1 h2)
  have LS := Lib.hid lS
  clear hS eO lS
  have EE : nb = b.length ∧ nd = D.length := ⟨EB.out, ED.out⟩
  have HEE := Lib.hid EE
  clear EE
  go_upto_region 5 with fail
  clear h2 h4
  rename_i aK
  obtain ⟨v1, w2, hr1, g1, c1, w3, hr2, hc1, hg1, A1, b3⟩ := own_room w.heap.size w1 24 24 (.slice pb nb cb) b (hb.below M.bel) (by have := EB.out; omega) M.bel.size
  rw [← EB.out] at hr2 hc1
  have d1 : IntKind.i64.wrap ((nb : Int) + 40) = ((nb + 40 : Nat) : Int) := by rw [IntKind.wrap_i64]; omega
  refine wp_region_seq ?_
  refine wpSeq_wp rfl (wp_build_run _ rfl _ _ (run_buildSlice_none _) ?_)
  simp only [Act.put, List.setIfInBounds_toArray, List.set_cons_zero, List.set_cons_succ]
  refine wpSeq_yield (S := fun _ => True) (yieldsIf_move rfl _ rfl (.slice pb nb cb) rfl) trivial ?_
  simp only [Act.put, List.setIfInBounds_toArray, List.set_cons_zero, List.set_cons_succ]
  refine wpSeq_wp rfl (wp_append_run _ _ _ _ rfl _ _ rfl rfl _ _ hr1 ?_)
  simp only [Act.put, List.setIfInBounds_toArray, List.set_cons_zero, List.set_cons_succ]
  refine wpSeq_wp rfl (wp_append_run _ _ _ _ rfl _ _ rfl rfl _ _ hr2 ?_)
  simp only [Act.put, List.setIfInBounds_toArray, List.set_cons_zero, List.set_cons_succ]
  refine wpSeq_yield (S := fun _ => True) (yieldsIf_move rfl _ rfl (.slice pb nb cb) rfl) trivial ?_
  simp only [Act.put, List.setIfInBounds_toArray, List.set_cons_zero, List.set_cons_succ]
  refine wpSeq_yield (S := fun _ => True) (v := .int .i64 (nb : Int)) (Or.inl ⟨by rfl, fun w' hw' => by go_simp⟩) trivial ?_
  simp only [Act.put, List.setIfInBounds_toArray, List.set_cons_zero, List.set_cons_succ]
  refine wpSeq_yield (S := fun _ => True) (yieldsIf_head rfl _ _ rfl (some ⟨g1, 0, none⟩) (nb + 40) c1 nb rfl rfl (by omega)) trivial ?_
  simp only [Act.put, List.setIfInBounds_toArray, List.set_cons_zero, List.set_cons_succ]
  refine wpSeq_yield (S := fun _ => True) (yieldsIf_assign rfl _ rfl (.slice (some ⟨g1, 0, none⟩) nb c1) rfl) trivial ?_
  simp only [Act.put, List.setIfInBounds_toArray, List.set_cons_zero, List.set_cons_succ]
  refine wpSeq_nil ?_
  refine aK _ _ ?_
  clear aK hr1 hr2
  replace M := M.below b3
  have z3 := b3.size
  clear b3 d1
  go_upto_region 6 with fail
  rename_i aK
  obtain ⟨v2, w4, hr1, g2, c2, w5, hr2, hc2, hg2, A2, b5⟩ := own_room w.heap.size w3 24 24 (.slice pd nd cd) D (hd.below M.bel) (by have := ED.out; omega) M.bel.size
  rw [← ED.out] at hr2 hc2
  refine wp_region_seq ?_
  refine wpSeq_wp rfl (wp_build_run _ rfl _ _ (run_buildSlice_none _) ?_)
  simp only [Act.put, List.setIfInBounds_toArray, List.set_cons_zero, List.set_cons_succ]
  refine wpSeq_yield (S := fun _ => True) (yieldsIf_move rfl _ rfl (.slice pd nd cd) rfl) trivial ?_
  simp only [Act.put, List.setIfInBounds_toArray, List.set_cons_zero, List.set_cons_succ]
  refine wpSeq_wp rfl (wp_append_run _ _ _ _ rfl _ _ rfl rfl _ _ hr1 ?_)
  simp only [Act.put, List.setIfInBounds_toArray, List.set_cons_zero, List.set_cons_succ]
  refine wpSeq_wp rfl (wp_append_run _ _ _ _ rfl _ _ rfl rfl _ _ hr2 ?_)
  simp only [Act.put, List.setIfInBounds_toArray, List.set_cons_zero, List.set_cons_succ]
  refine wpSeq_yield (S := fun _ => True) (yieldsIf_move rfl _ rfl (.slice pd nd cd) rfl) trivial ?_
  simp only [Act.put, List.setIfInBounds_toArray, List.set_cons_zero, List.set_cons_succ]
  refine wpSeq_yield (S := fun _ => True) (v := .int .i64 (nd : Int)) (Or.inl ⟨by rfl, fun w' hw' => by go_simp⟩) trivial ?_
  simp only [Act.put, List.setIfInBounds_toArray, List.set_cons_zero, List.set_cons_succ]
  refine wpSeq_yield (S := fun _ => True) (yieldsIf_head rfl _ _ rfl (some ⟨g2, 0, none⟩) (nd + 40) c2 nd rfl rfl (by omega)) trivial ?_
  simp only [Act.put, List.setIfInBounds_toArray, List.set_cons_zero, List.set_cons_succ]
  refine wpSeq_yield (S := fun _ => True) (yieldsIf_assign rfl _ rfl (.slice (some ⟨g2, 0, none⟩) nd c2) rfl) trivial ?_
  simp only [Act.put, List.setIfInBounds_toArray, List.set_cons_zero, List.set_cons_succ]
  refine wpSeq_nil ?_
  refine aK _ _ ?_
  clear aK hr1 hr2
  have hO : OWM w K NN g1 g2 b D w5 := ⟨M.below b5, A1.below b5, A2⟩
  have g12 : g1 < w3.heap.size := A1.blk
  have g2l : g2 < w5.heap.size := A2.blk
  have z5 := b5.size
  clear b5 A1 A2 M
  have M := hO.s
  go_wp2_with (first | (refine wpList_load_row rfl 22 _ rfl w.heap.size rfl 22 _ (0, 0) _ M.k Try.underlying22 rfl (info_n _ lK) ?_) | (refine wpList_load_row rfl 23 _ rfl (w.heap.size + 1) rfl 23 _ (0, 0) _ M.n Try.underlying23 rfl (info_12 _ lN) ?_))
  refine (C1.out _ _ _ _ _ (hO.sb2 HEE.out.2 hc2) (hO.sb1 HEE.out.1 hc1)).mono ?_
  rintro _ w6 ⟨v6, rfl, O6, b6⟩
  obtain ⟨ps, cs, hv⟩ := O6.shape
  rw [LS.out] at hv
  subst hv
  replace hO := hO.below b6
  replace M := hO.s
  have s6 := O6.sb
  have z6 := b6.size
  clear b6 C1 O6
  go_wp2_with (first | (refine wpList_load_row rfl 22 _ rfl w.heap.size rfl 22 _ (0, 0) _ M.k Try.underlying22 rfl (info_n _ lK) ?_) | (refine wpList_load_row rfl 23 _ rfl (w.heap.size + 1) rfl 23 _ (0, 0) _ M.n Try.underlying23 rfl (info_12 _ lN) ?_))
  refine (C2.out _ _ _ _ _ (hO.sb2 HEE.out.2 hc2) s6).mono ?_
  rintro _ w7 ⟨v7, rfl, O7, b7⟩
  replace O7 : OwL w6.heap.size w7 v7 b := O7
  have l7 := O7.lt
  have B6 := sb_block s6
  replace hO := hO.below b7
  replace s6 := s6.below b7
  have z7 := b7.size
  clear b7 C2
  go_upto_region 9 with fail
  rename_i aK
  have b8 := (Below.refl w7.heap.size w7).alloc (Nat.le_refl _) (.cells #[] 5)
  obtain ⟨v9, w9, hr, O9, g9, e9⟩ := append_sb w7.heap.size (w7.alloc (.cells #[] 5)) 24 _ (.slice ps (nb + 16) cs) [] S (OwL.new w7.heap.size w7 [] (Nat.le_refl _) (Nat.zero_le _)) (s6.below b8) (by simp only [List.length_nil]; have := LS.out; omega) b8.size
  rw [List.nil_append] at O9
  have b9 := below_grown' b8 g9 (fun j e => by have e' := Option.some.inj e; dsimp only at e'; omega) b8.size
  refine wp_region_seq ?_
  refine wpSeq_wp rfl (wp_build_run _ rfl _ _ (run_buildSlice_none _) ?_)
  simp only [Act.put, List.setIfInBounds_toArray, List.set_cons_zero, List.set_cons_succ]
  refine wpSeq_yield (S := fun _ => True) (yieldsIf_move rfl _ rfl (.slice ps (nb + 16) cs) rfl) trivial ?_
  simp only [Act.put, List.setIfInBounds_toArray, List.set_cons_zero, List.set_cons_succ]
  refine wpSeq_wp rfl (wp_append_run _ _ _ _ rfl _ _ rfl rfl _ _ hr ?_)
  simp only [Act.put, List.setIfInBounds_toArray, List.set_cons_zero, List.set_cons_succ]
  refine wpSeq_yield (S := fun _ => True) (yieldsIf_assign rfl _ rfl (v9) rfl) trivial ?_
  simp only [Act.put, List.setIfInBounds_toArray, List.set_cons_zero, List.set_cons_succ]
  refine wpSeq_nil ?_
  refine aK _ _ ?_
  clear aK hr g9 e9 b8
  replace hO := hO.below b9
  replace s6 := s6.below b9
  replace O7 := O7.below b9
  have z9 := b9.size
  clear b9 M
  obtain ⟨p7, c7, hv7⟩ := O7.shape
  rw [← HEE.out.1] at hv7
  subst hv7
  have AN := O7.any bb
  clear O7
  generalize hrow : (Value.slice p7 nb c7).ownBlock = row at l7
  have HROW := Lib.hid hrow
  clear hrow
  go_upto_region 11 with fail
  go_loopw [62] (fun t wr => ∃ i : Nat, i ≤ nb ∧ t = .int .i64 (i : Int) ∧ w9.grownBy wr row ∧ AnyB wr nb p7) (fun t _ => (nb - intOf t).toNat)
  case atStart => exact ⟨0, by omega, rfl, ⟨rfl, rfl, rfl, Nat.le_refl _, fun _ _ _ => rfl⟩, AN⟩
  case round =>
    clear AN
    obtain ⟨i, hi, rfl, gr, AN⟩ := hrel
    by_cases hin : i = nb
    · rw [hin]
      have far : ∀ g, g < w6.heap.size → some g ≠ row := fun g hg e => by
        have := (l7 g e.symm).1
        omega
      replace hO : OWM w K NN g1 g2 b D wr := ⟨⟨Blk.kept hO.s.k gr (far _ (by omega)), Blk.kept hO.s.n gr (far _ (by omega)), below_grown' hO.s.bel gr (fun j e => by have := (l7 j e).1; omega) hO.s.bel.size⟩, hO.i.of_block (gr.block g1 hO.i.blk (far _ (by omega))), hO.y.of_block (gr.block g2 hO.y.blk (far _ (by omega)))⟩
      replace s6 := s6.kept gr (B6.imp id fun h a e => far _ (h a e))
      have s9 : SB wr v9 S := (O9.of_block fun g hg => gr.block g (O9.lt g hg).2 (fun e => by
        have h1 := (O9.lt g hg).1
        have h2 := (l7 g e.symm).2
        omega)).sb
      have d1 : IntKind.i64.wrap ((nb : Int) + 40) = ((nb + 40 : Nat) : Int) := by rw [IntKind.wrap_i64]; omega
      have d2 : IntKind.i64.wrap ((nd : Int) + 40) = ((nd + 40 : Nat) : Int) := by rw [IntKind.wrap_i64]; omega
      have nI := fun i hi => nought_at hO.i HEE.out.1 i hi
      have nY := fun i hi => nought_at hO.y HEE.out.2 i hi
      have sB1 := hO.sb1 (c := c1) HEE.out.1 hc1
      have sD1 := hO.sb2 (c := c2) HEE.out.2 hc2
      have BE := hO.s.bel
      have t1 : (.slice (tailP (some ⟨g1, 0, none⟩) c1 nb) (nb + 40 - nb) (c1 - nb) : Value) = .slice (some ⟨g1, nb, none⟩) 40 (c1 - nb) := by
        rw [show nb + 40 - nb = 40 by omega]
        simp [tailP, show ¬ c1 = nb by omega, Addr.add_lit]
      have t2 : (.slice (tailP (some ⟨g2, 0, none⟩) c2 nd) (nd + 40 - nd) (c2 - nd) : Value) = .slice (some ⟨g2, nd, none⟩) 40 (c2 - nd) := by
        rw [show nd + 40 - nd = 40 by omega]
        simp [tailP, show ¬ c2 = nd by omega, Addr.add_lit]
      have T1 := Lib.hid t1
      have T2 := Lib.hid t2
      have NI' := Lib.hid nI
      have NY := Lib.hid nY
      clear AN far gr O9 l7 B6 z3 z5 z6 z7 z9 zM g12 g2l hg1 hg2 t1 t2 nI nY hO HROW i hi hin
      generalize wr = W at *
      go_upto_region 15 with fail
      rename_i aK
      refine wp_region_seq ?_
      refine wpSeq_yield (S := fun _ => True) (yieldsIf_move rfl _ rfl (.slice (some ⟨g1, 0, none⟩) nb c1) rfl) trivial ?_
      simp only [Act.put, List.setIfInBounds_toArray, List.set_cons_zero, List.set_cons_succ]
      refine wpSeq_yield (S := fun _ => True) (yieldsIf_move rfl _ rfl (.slice pb nb cb) rfl) trivial ?_
      simp only [Act.put, List.setIfInBounds_toArray, List.set_cons_zero, List.set_cons_succ]
      refine wpSeq_yield (S := fun _ => True) (v := .int .i64 (nb : Int)) (Or.inl ⟨by rfl, fun w' hw' => by go_simp⟩) trivial ?_
      simp only [Act.put, List.setIfInBounds_toArray, List.set_cons_zero, List.set_cons_succ]
      refine wpSeq_yield (S := fun _ => True) (v := .int .i64 ((nb + 40 : Nat) : Int)) (Or.inl ⟨by rfl, fun w' hw' => by go_simp⟩) trivial ?_
      simp only [Act.put, List.setIfInBounds_toArray, List.set_cons_zero, List.set_cons_succ]
      refine wpSeq_yield (S := fun _ => True) (yieldsIf_head rfl _ _ rfl (some ⟨g1, 0, none⟩) nb c1 (nb + 40) rfl rfl (by omega)) trivial ?_
      simp only [Act.put, List.setIfInBounds_toArray, List.set_cons_zero, List.set_cons_succ]
      refine wpSeq_yield (S := fun _ => True) (yieldsIf_move rfl _ rfl (.slice pb nb cb) rfl) trivial ?_
      simp only [Act.put, List.setIfInBounds_toArray, List.set_cons_zero, List.set_cons_succ]
      refine wpSeq_yield (S := fun _ => True) (v := .int .i64 (nb : Int)) (Or.inl ⟨by rfl, fun w' hw' => by go_simp⟩) trivial ?_
      simp only [Act.put, List.setIfInBounds_toArray, List.set_cons_zero, List.set_cons_succ]
      refine wpSeq_yield (S := fun _ => True) (v := .slice (some ⟨g1, nb, none⟩) 40 (c1 - nb)) (T1.out ▸ yieldsIf_tail rfl _ _ rfl (some ⟨g1, 0, none⟩) (nb + 40) c1 nb rfl rfl (by omega) (by omega)) trivial ?_
      simp only [Act.put, List.setIfInBounds_toArray, List.set_cons_zero, List.set_cons_succ]
      refine wpSeq_yield (S := fun _ => True) (v := .int .i64 40) (Or.inl ⟨by rfl, fun w' hw' => by go_simp⟩) trivial ?_
      simp only [Act.put, List.setIfInBounds_toArray, List.set_cons_zero, List.set_cons_succ]
      refine wpSeq_yield (S := fun _ => True) (yieldsIf_move rfl _ rfl (.int .i64 0) rfl) trivial ?_
      simp only [Act.put, List.setIfInBounds_toArray, List.set_cons_zero, List.set_cons_succ]
      refine wpSeq_nil ?_
      refine aK _ _ ?_
      clear aK
      go_upto_region 16 with fail
      go_loopw [81] (fun t w' => ∃ i : Nat, i ≤ 40 ∧ t = .int .i64 (i : Int) ∧ w' = W) (fun t _ => (40 - intOf t).toNat)
      case atStart => exact ⟨0, by omega, rfl, rfl⟩
      case round =>
        obtain ⟨i, hi, rfl, hw⟩ := hrel
        subst hw
        by_cases hin : i = 40
        · subst hin
          rw [show ((40 : Nat) : Int) = 40 from rfl]
          clear hi
          generalize wr = W at *
          go_upto_region 21 with fail
          rename_i aK
          refine wp_region_seq ?_
          refine wpSeq_yield (S := fun _ => True) (yieldsIf_move rfl _ rfl (.slice (some ⟨g2, 0, none⟩) nd c2) rfl) trivial ?_
          simp only [Act.put, List.setIfInBounds_toArray, List.set_cons_zero, List.set_cons_succ]
          refine wpSeq_yield (S := fun _ => True) (yieldsIf_move rfl _ rfl (.slice pd nd cd) rfl) trivial ?_
          simp only [Act.put, List.setIfInBounds_toArray, List.set_cons_zero, List.set_cons_succ]
          refine wpSeq_yield (S := fun _ => True) (v := .int .i64 (nd : Int)) (Or.inl ⟨by rfl, fun w' hw' => by go_simp⟩) trivial ?_
          simp only [Act.put, List.setIfInBounds_toArray, List.set_cons_zero, List.set_cons_succ]
          refine wpSeq_yield (S := fun _ => True) (v := .int .i64 ((nd + 40 : Nat) : Int)) (Or.inl ⟨by rfl, fun w' hw' => by go_simp⟩) trivial ?_
          simp only [Act.put, List.setIfInBounds_toArray, List.set_cons_zero, List.set_cons_succ]
          refine wpSeq_yield (S := fun _ => True) (yieldsIf_head rfl _ _ rfl (some ⟨g2, 0, none⟩) nd c2 (nd + 40) rfl rfl (by omega)) trivial ?_
          simp only [Act.put, List.setIfInBounds_toArray, List.set_cons_zero, List.set_cons_succ]
          refine wpSeq_yield (S := fun _ => True) (yieldsIf_move rfl _ rfl (.slice pd nd cd) rfl) trivial ?_
          simp only [Act.put, List.setIfInBounds_toArray, List.set_cons_zero, List.set_cons_succ]
          refine wpSeq_yield (S := fun _ => True) (v := .int .i64 (nd : Int)) (Or.inl ⟨by rfl, fun w' hw' => by go_simp⟩) trivial ?_
          simp only [Act.put, List.setIfInBounds_toArray, List.set_cons_zero, List.set_cons_succ]
          refine wpSeq_yield (S := fun _ => True) (v := .slice (some ⟨g2, nd, none⟩) 40 (c2 - nd)) (T2.out ▸ yieldsIf_tail rfl _ _ rfl (some ⟨g2, 0, none⟩) (nd + 40) c2 nd rfl rfl (by omega) (by omega)) trivial ?_
          simp only [Act.put, List.setIfInBounds_toArray, List.set_cons_zero, List.set_cons_succ]
          refine wpSeq_yield (S := fun _ => True) (v := .int .i64 40) (Or.inl ⟨by rfl, fun w' hw' => by go_simp⟩) trivial ?_
          simp only [Act.put, List.setIfInBounds_toArray, List.set_cons_zero, List.set_cons_succ]
          refine wpSeq_yield (S := fun _ => True) (yieldsIf_move rfl _ rfl (.int .i64 0) rfl) trivial ?_
          simp only [Act.put, List.setIfInBounds_toArray, List.set_cons_zero, List.set_cons_succ]
          refine wpSeq_nil ?_
          refine aK _ _ ?_
          clear aK
          go_upto_region 22 with fail
          go_loopw [97] (fun t w' => ∃ i : Nat, i ≤ 40 ∧ t = .int .i64 (i : Int) ∧ w' = W) (fun t _ => (40 - intOf t).toNat)
          case atStart => exact ⟨0, by omega, rfl, rfl⟩
          case round =>
            obtain ⟨i, hi, rfl, hw⟩ := hrel
            subst hw
            by_cases hin : i = 40
            · subst hin
              rw [show ((40 : Nat) : Int) = 40 from rfl]
              clear hi
              go_upto_region 27 with fail
              rename_i aK
              refine wp_region_seq ?_
              refine wpSeq_yield (S := fun w' => w' = wr) (yieldsIf_move rfl _ rfl (.bool true) rfl) rfl ?_
              simp only [Act.put, List.setIfInBounds_toArray, List.set_cons_zero, List.set_cons_succ]
              refine wpSeq_yield (S := fun w' => w' = wr) (yieldsIf_move rfl _ rfl (.bool true) rfl) rfl ?_
              simp only [Act.put, List.setIfInBounds_toArray, List.set_cons_zero, List.set_cons_succ]
              refine wpSeq_yield (S := fun w' => w' = wr) (yieldsIf_move rfl _ rfl (.slice (some ⟨g1, 0, none⟩) nb c1) rfl) rfl ?_
              simp only [Act.put, List.setIfInBounds_toArray, List.set_cons_zero, List.set_cons_succ]
              refine wpSeq_yield (S := fun w' => w' = wr) (yieldsIf_conv rfl _ rfl (.slice (some ⟨g1, 0, none⟩) nb c1) rfl b (fun w' h => h ▸ sB1)) rfl ?_
              simp only [Act.put, List.setIfInBounds_toArray, List.set_cons_zero, List.set_cons_succ]
              refine wpSeq_yield (S := fun w' => w' = wr) (yieldsIf_move rfl _ rfl (.slice pb nb cb) rfl) rfl ?_
              simp only [Act.put, List.setIfInBounds_toArray, List.set_cons_zero, List.set_cons_succ]
              refine wpSeq_yield (S := fun w' => w' = wr) (yieldsIf_conv rfl _ rfl (.slice pb nb cb) rfl b (fun w' h => h ▸ hb.below BE)) rfl ?_
              simp only [Act.put, List.setIfInBounds_toArray, List.set_cons_zero, List.set_cons_succ]
              refine wpSeq_yield (S := fun w' => w' = wr) (yieldsIf_strB rfl _ _ rfl b b rfl rfl rfl) rfl ?_
              simp only [Act.put, List.setIfInBounds_toArray, List.set_cons_zero, List.set_cons_succ]
              refine wpSeq_yield (S := fun w' => w' = wr) (yieldsIf_pick rfl _ _ _ rfl true rfl (.bool true) rfl) rfl ?_
              simp only [Act.put, List.setIfInBounds_toArray, List.set_cons_zero, List.set_cons_succ]
              refine wpSeq_yield (S := fun w' => w' = wr) (yieldsIf_move rfl _ rfl (.bool true) rfl) rfl ?_
              simp only [Act.put, List.setIfInBounds_toArray, List.set_cons_zero, List.set_cons_succ]
              refine wpSeq_yield (S := fun w' => w' = wr) (yieldsIf_move rfl _ rfl (.slice (some ⟨g2, 0, none⟩) nd c2) rfl) rfl ?_
              simp only [Act.put, List.setIfInBounds_toArray, List.set_cons_zero, List.set_cons_succ]
              refine wpSeq_yield (S := fun w' => w' = wr) (yieldsIf_conv rfl _ rfl (.slice (some ⟨g2, 0, none⟩) nd c2) rfl D (fun w' h => h ▸ sD1)) rfl ?_
              simp only [Act.put, List.setIfInBounds_toArray, List.set_cons_zero, List.set_cons_succ]
              refine wpSeq_yield (S := fun w' => w' = wr) (yieldsIf_move rfl _ rfl (.slice pd nd cd) rfl) rfl ?_
              simp only [Act.put, List.setIfInBounds_toArray, List.set_cons_zero, List.set_cons_succ]
              refine wpSeq_yield (S := fun w' => w' = wr) (yieldsIf_conv rfl _ rfl (.slice pd nd cd) rfl D (fun w' h => h ▸ hd.below BE)) rfl ?_
              simp only [Act.put, List.setIfInBounds_toArray, List.set_cons_zero, List.set_cons_succ]
              refine wpSeq_yield (S := fun w' => w' = wr) (yieldsIf_strB rfl _ _ rfl D D rfl rfl rfl) rfl ?_
              simp only [Act.put, List.setIfInBounds_toArray, List.set_cons_zero, List.set_cons_succ]
              refine wpSeq_yield (S := fun w' => w' = wr) (yieldsIf_pick rfl _ _ _ rfl true rfl (.bool true) rfl) rfl ?_
              simp only [Act.put, List.setIfInBounds_toArray, List.set_cons_zero, List.set_cons_succ]
              refine wpSeq_yield (S := fun w' => w' = wr) (yieldsIf_move rfl _ rfl (.bool true) rfl) rfl ?_
              simp only [Act.put, List.setIfInBounds_toArray, List.set_cons_zero, List.set_cons_succ]
              refine wpSeq_yield (S := fun w' => w' = wr) (yieldsIf_move rfl _ rfl (.slice ps (nb + 16) cs) rfl) rfl ?_
              simp only [Act.put, List.setIfInBounds_toArray, List.set_cons_zero, List.set_cons_succ]
              refine wpSeq_yield (S := fun w' => w' = wr) (yieldsIf_conv rfl _ rfl (.slice ps (nb + 16) cs) rfl S (fun w' h => h ▸ s6)) rfl ?_
              simp only [Act.put, List.setIfInBounds_toArray, List.set_cons_zero, List.set_cons_succ]
              refine wpSeq_yield (S := fun w' => w' = wr) (yieldsIf_move rfl _ rfl (v9) rfl) rfl ?_
              simp only [Act.put, List.setIfInBounds_toArray, List.set_cons_zero, List.set_cons_succ]
              refine wpSeq_yield (S := fun w' => w' = wr) (yieldsIf_conv rfl _ rfl (v9) rfl S (fun w' h => h ▸ s9)) rfl ?_
              simp only [Act.put, List.setIfInBounds_toArray, List.set_cons_zero, List.set_cons_succ]
              refine wpSeq_yield (S := fun w' => w' = wr) (yieldsIf_strB rfl _ _ rfl S S rfl rfl rfl) rfl ?_
              simp only [Act.put, List.setIfInBounds_toArray, List.set_cons_zero, List.set_cons_succ]
              refine wpSeq_yield (S := fun w' => w' = wr) (yieldsIf_pick rfl _ _ _ rfl true rfl (.bool true) rfl) rfl ?_
              simp only [Act.put, List.setIfInBounds_toArray, List.set_cons_zero, List.set_cons_succ]
              refine wpSeq_yield (S := fun w' => w' = wr) (yieldsIf_assign rfl _ rfl (.bool true) rfl) rfl ?_
              simp only [Act.put, List.setIfInBounds_toArray, List.set_cons_zero, List.set_cons_succ]
              refine wpSeq_nil ?_
              refine aK _ _ ?_
              clear aK sB1 sD1 s6 s9 NY
              go_wp2
              refine bodyPost_ret (results_tmp rfl _ _ _) ?_ ?_
              · rfl
              · exact ⟨rfl, BE⟩
            · have i1 : (i : Int) < 40 := by omega
              have i0 : (0 : Int) ≤ (i : Int) := by omega
              have ci := NY.out i (by omega)
              go_wp2
              exact ⟨⟨i + 1, by omega, rfl, by first | rfl | trivial⟩, by simp only [intOf]; omega⟩
        · have i1 : (i : Int) < 40 := by omega
          have i0 : (0 : Int) ≤ (i : Int) := by omega
          have ci := NI'.out i (by omega)
          go_wp2
          exact ⟨⟨i + 1, by omega, rfl, by first | rfl | trivial⟩, by simp only [intOf]; omega⟩
    · have i1 : (i : Int) < (nb : Int) := by omega
      have i0 : (0 : Int) ≤ (i : Int) := by omega
      rcases AN with h0 | ⟨g, cur, rfl, KB, hx⟩
      · omega
      obtain ⟨x, lx, ex⟩ := hx i (by omega)
      have ci : wr.cell? ⟨g, i, none⟩ = some (.int .u8 (x : Int)) := (Blk.cell KB i).trans ex
      have fi := Blk.frozen KB i
      have xx : bits .xor .u8 (x : Int) 255 = ((x ^^^ 255 : Nat) : Int) := u8_xor_nat x 255 lx (by decide)
      have lxx : x ^^^ 255 < 256 := Nat.xor_lt_two_pow (n := 8) lx (by decide)
      have KB' := Blk.set KB i (.int .u8 ((x ^^^ 255 : Nat) : Int))
      have AN' : AnyB (wr.setCell ⟨g, i, none⟩ (.int .u8 ((x ^^^ 255 : Nat) : Int))) nb (some ⟨g, 0, none⟩) := Or.inr ⟨g, _, rfl, KB', fun j hj => by
        by_cases hji : i = j
        · subst hji
          refine ⟨x ^^^ 255, lxx, ?_⟩
          have := (Array.getElem?_eq_some_iff.1 ex).1
          simp [this]
        · obtain ⟨y, ly, ey⟩ := hx j hj
          exact ⟨y, ly, by rw [Array.getElem?_setIfInBounds, if_neg hji]; exact ey⟩⟩
      have gr' : w9.grownBy (wr.setCell ⟨g, i, none⟩ (.int .u8 ((x ^^^ 255 : Nat) : Int))) row := gr.trans ⟨rfl, rfl, rfl, by simp, fun k hk hkr => heap_setCell_other wr _ _ _ (fun e => hkr (by rw [← HROW.out]; exact congrArg some e))⟩
      generalize x ^^^ 255 = y at *
      clear KB KB' hx ex gr lxx
      go_wp2
      exact ⟨⟨i + 1, by omega, rfl, gr', AN'⟩, by simp only [intOf]; omega⟩
end Go.Proofs.Yteaddadmdjjfaaa
