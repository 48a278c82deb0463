/- Keys and 64 bytes as lists; the sum as a number. -/
import Derived.Test.YtmceebdaaegkeaaDoorBa
import Derived.Test.YtmceebdaaegkeaaDoorSh
import Derived.Test.YtmceebdaaegkeaaDoorPn
import Derived.Laws.CopyOwn
import Derived.Test.YtmceebdaaegkeaaDoorLo
namespace Go.Proofs.YtmceebdaaegkeaaDoor
open Go.RowKit Ed
open H5 (NI NI_length NI_inj Bytes BA SB SP sha sha_length sha_bytes sum512_l)

theorem leTo_congr {f g : Nat → Nat} : ∀ (k : Nat), (∀ i, i < k → f i = g i) → leTo f k = leTo g k
  | 0, _ => rfl
  | k + 1, h => by
    unfold leTo
    rw [leTo_congr k (fun i hi => h i (by omega)), h k (by omega)]
/-- A number's 32 bytes. -/
def kb (n : Nat) : List Nat := (List.range 32).map (byteAt n)
theorem kb_length (n : Nat) : (kb n).length = 32 := by simp [kb]
theorem kb_bytes (n : Nat) : Bytes (kb n) := fun x h => by
  unfold kb at h
  obtain ⟨i, _, rfl⟩ := List.mem_map.1 h
  exact Nat.mod_lt _ (by decide)
theorem NI_kb (n : Nat) : NI (kb n) = keyOf n := by
  unfold NI kb keyOf
  rw [List.map_map]
  rfl
/-- The first 32 of 64 bytes, the last. -/
def lo (l : List Nat) : Nat := leTo (fun i => l.getD i 0) 32
def hi (l : List Nat) : Nat := leTo (fun i => (l.drop 32).getD i 0) 32
theorem NI_get' (l : List Nat) (i : Nat) : (NI l).getD i 0 = ((l.getD i 0 : Nat) : Int) := by
  unfold NI
  simp only [List.getD_eq_getElem?_getD, List.getElem?_map]
  cases l[i]? <;> rfl
theorem key_of_list (l : List Nat) (hb : Bytes l) (hl : l.length = 32) : NI l = keyOf (leTo (fun i => l.getD i 0) 32) :=
  key_of_bytes ⟨by rw [NI_length, hl], fun i _ => NI_get' l i, fun i => hb.getD i⟩
theorem two_keys (l : List Nat) (hb : Bytes l) (hl : l.length = 64) : NI l = keyOf (lo l) ++ keyOf (hi l) := by
  have e : NI l = NI (l.take 32) ++ NI (l.drop 32) := by
    unfold NI
    rw [← List.map_append, List.take_append_drop]
  rw [e, key_of_list (l.take 32) (hb.take 32) (by rw [List.length_take, hl]; rfl), key_of_list (l.drop 32) (hb.drop 32) (by rw [List.length_drop, hl])]
  unfold lo hi
  congr 2
  exact leTo_congr 32 fun i h => by
    rw [List.getD_eq_getElem?_getD, List.getD_eq_getElem?_getD, List.getElem?_take, if_pos h]
theorem lo_lt {l : List Nat} (hb : Bytes l) : lo l < p256 := leTo_lt256 fun i => hb.getD i
theorem hi_lt {l : List Nat} (hb : Bytes l) : hi l < p256 := leTo_lt256 fun i => (hb.drop 32).getD i
/-- A sum as a number below the order. -/
def redN (l : List Nat) : Nat := leTo (fun i => l.getD i 0) 64 % ell
theorem ell_LL : Sc.LL = ell := rfl
theorem ell_p256 : ell < p256 := by decide
theorem redN_lt (l : List Nat) : redN l < ell := Nat.mod_lt _ (by decide)
theorem redN_p (l : List Nat) : redN l < p256 := Nat.lt_trans (redN_lt l) ell_p256
theorem pw4_p256 : Sc.pw 4 = p256 := by decide
theorem reduce_l (g : Nat) (t : TypeId) (l : List Nat) (hl : l.length = 64) (hb : Bytes l) (w : World) (h : Blk w g t (Iv .u8 (NI l))) :
    Calls Tryd.prog 35 #[.slice (some ⟨g, 0, none⟩) 64 64] w fun e w' => e = .returned (Key (keyOf (redN l))) ∧ Below w.heap.size w w' :=
  Sc.reduce_any g 0 64 64 (fun i => l.getD i 0) w ⟨fun i hi => by
    rw [h.cell, Nat.zero_add, Iv_get _ _ _ (by rw [NI_length, hl]; exact hi), NI_get'], fun i => hb.getD i, h.lt⟩ (by decide) (by decide)
theorem muladd_n (a b c r : Nat) (ha : a < p256) (hb : b < p256) (hc : c < p256) (hr : r = (a * b + c) % ell) (w : World) :
    Calls Tryd.prog 15 #[Key (keyOf a), Key (keyOf b), Key (keyOf c)] w fun e w' => e = .returned (Key (keyOf r)) ∧ Below w.heap.size w w' :=
  Sc.muladd_n a b c r (pw4_p256 ▸ ha) (pw4_p256 ▸ hb) (pw4_p256 ▸ hc) hr w
theorem check_n (a : Nat) (ha : a < ell) (w : World) : Calls Tryd.prog 24 #[Key (keyOf a)] w fun e w' => e = .returned (.bool true) ∧ Below w.heap.size w w' :=
  Sc.check_n a true (pw4_p256 ▸ Nat.lt_trans ha ell_p256) (decide_eq_true ha) w

/-- Two keys, one behind the other, as a row of cells. -/
def Sg (a b : Nat) : List Int := keyOf a ++ keyOf b
theorem Sg_length (a b : Nat) : (Sg a b).length = 64 := by simp [Sg, keyOf_length]
theorem Sg_inj {a b c d : Nat} (ha : a < p256) (hb : b < p256) (hc : c < p256) (hd : d < p256) (h : Sg a b = Sg c d) : a = c ∧ b = d := by
  obtain ⟨h1, h2⟩ := List.append_inj h (by rw [keyOf_length, keyOf_length])
  exact ⟨keyOf_inj ha hc h1, keyOf_inj hb hd h2⟩
theorem info_Sg (a b : Nat) : (Tryd.prog.info? 27).map (·.size) = some (Iv .u8 (Sg a b)).size := by
  rw [Iv_size, Sg_length]
  kernel_rfl
/-- A key's cells, one by one. -/
def kcs (n : Nat) : List Value := (keyOf n).map (Value.int .u8)
theorem kcs_length (n : Nat) : (kcs n).length = 32 := by simp [kcs, keyOf_length]
theorem kcs_one (n : Nat) : ∀ v ∈ kcs n, v.oneCell' = true := fun v h => by
  obtain ⟨x, _, rfl⟩ := List.mem_map.1 h
  rfl
theorem kcs_get (n j : Nat) (v : Value) (h : (kcs n)[j]? = some v) : j < 32 ∧ v = .int .u8 ((keyOf n).getD j 0) := by
  have hj : j < 32 := by
    have := (List.getElem?_eq_some_iff.1 h).1
    rwa [kcs_length] at this
  refine ⟨hj, ?_⟩
  unfold kcs at h
  rw [List.getElem?_map, List.getElem?_eq_getElem (by rw [keyOf_length]; exact hj)] at h
  simp only [Option.map_some, Option.some.injEq] at h
  rw [← h, List.getD_eq_getElem?_getD, List.getElem?_eq_getElem (by rw [keyOf_length]; exact hj)]
  rfl
/-- The cells of a key, in its own block. -/
theorem kcs_key {w : World} {g : Nat} {t : TypeId} {n : Nat} (h : Blk w g t (Iv .u8 (keyOf n))) (j : Nat) (v : Value) (hj : (kcs n)[j]? = some v) : w.cell? ((⟨g, 0, none⟩ : Addr).add j) = some v := by
  obtain ⟨h1, rfl⟩ := kcs_get n j v hj
  rw [Addr.add_lit, Nat.zero_add, h.cell, Iv_get _ _ _ (by rw [keyOf_length]; exact h1)]
theorem kcs_lo {w : World} {g : Nat} {t : TypeId} {a b : Nat} (h : Blk w g t (Iv .u8 (Sg a b))) (j : Nat) (v : Value) (hj : (kcs a)[j]? = some v) : w.cell? ((⟨g, 0, none⟩ : Addr).add j) = some v := by
  obtain ⟨h1, rfl⟩ := kcs_get a j v hj
  rw [Addr.add_lit, Nat.zero_add, h.cell, Iv_get _ _ _ (by rw [Sg_length]; omega)]
  unfold Sg
  rw [List.getD_eq_getElem?_getD, List.getElem?_append_left (by rw [keyOf_length]; exact h1), List.getD_eq_getElem?_getD]
theorem kcs_hi {w : World} {g : Nat} {t : TypeId} {a b : Nat} (h : Blk w g t (Iv .u8 (Sg a b))) (j : Nat) (v : Value) (hj : (kcs b)[j]? = some v) : w.cell? ((⟨g, 32, none⟩ : Addr).add j) = some v := by
  obtain ⟨h1, rfl⟩ := kcs_get b j v hj
  rw [Addr.add_lit, h.cell, Iv_get _ _ _ (by rw [Sg_length]; omega)]
  unfold Sg
  rw [List.getD_eq_getElem?_getD, List.getElem?_append_right (by rw [keyOf_length]; omega), List.getD_eq_getElem?_getD, keyOf_length, Nat.add_sub_cancel_left]
/-- What a key's row, or 64 bytes, are behind a copy of a key. -/
theorem copy_key (n : Nat) : ((Iv .u8 (List.replicate 32 0)).toList.take 0 ++ (kcs n ++ (Iv .u8 (List.replicate 32 0)).toList.drop (0 + (kcs n).length))).toArray = Iv .u8 (keyOf n) := by
  rw [kcs_length]
  simp [Iv, kcs]
theorem keyOf_zero : keyOf 0 = List.replicate 32 0 := by decide
theorem Sg_zero : List.replicate 64 (0 : Int) = Sg 0 0 := by decide
theorem copy_lo (n a b : Nat) : ((Iv .u8 (Sg a b)).toList.take 0 ++ (kcs n ++ (Iv .u8 (Sg a b)).toList.drop (0 + (kcs n).length))).toArray = Iv .u8 (Sg n b) := by
  rw [kcs_length]
  unfold Iv Sg kcs
  simp only [List.toList_toArray, List.take_zero, List.nil_append, Nat.zero_add, List.map_append]
  rw [List.drop_append_of_le_length (by simp [keyOf_length]), List.drop_of_length_le (by simp [keyOf_length]), List.nil_append]
theorem copy_hi (n a b : Nat) : ((Iv .u8 (Sg a b)).toList.take 32 ++ (kcs n ++ (Iv .u8 (Sg a b)).toList.drop (32 + (kcs n).length))).toArray = Iv .u8 (Sg a n) := by
  rw [kcs_length]
  unfold Iv Sg kcs
  simp only [List.toList_toArray, List.map_append]
  rw [List.take_append_of_le_length (by simp [keyOf_length]), List.take_of_length_le (by simp [keyOf_length]), List.drop_of_length_le (by simp [keyOf_length]), List.append_nil]
end Go.Proofs.YtmceebdaaegkeaaDoor
/- What the walks of sign's functions take: a key copied into a block, slices of slices built, 64 bytes held against each other. -/
namespace Go.Proofs.YtmceebdaaegkeaaDoor
open Go.RowKit Ed
open H5 (NI NI_length NI_inj Bytes BA SB SP sha sha_length sha_bytes sum512_l Tab Sq)

theorem wp_copy_own {P : Program} {w : World} {o : Oper} {a : Act} {K : Act → World → Prop} {Q : Exit → Act → World → Prop} (d s : Operand) (dT sT : TypeId)
    (ho : o.op = .call { callee := .builtin .copy, args := #[d, s], argTypes := #[dT, sT] }) (elem : TypeId) (hu : P.underlying dT = some (.slice elem)) (hsz : (P.info? elem).map (·.size) = some 1)
    (g off dLen dCap : Nat) (ad : Addr) (sLen sCap : Nat) (hd : a.eval d = .slice (some ⟨g, off, none⟩) dLen dCap) (hs : a.eval s = .slice (some ad) sLen sCap)
    (cur : Array Value) (t : TypeId) (hg : w.heap[g]? = some (.cells cur t (0, 0))) (cs : List Value) (hn : cs.length = Nat.min sLen dLen)
    (hsrc : ∀ j v, cs[j]? = some v → w.cell? (ad.add j) = some v) (hfit : off + cs.length ≤ cur.size) (h1 : ∀ v ∈ cs, v.oneCell' = true)
    (h : K (a.put o.dst (goInt cs.length)) (w.setRow g (cur.toList.take off ++ cs ++ cur.toList.drop (off + cs.length)).toArray)) : o.wp P a w K Q := by
  have hrun := run_copy_row (P := P) w dT sT o.type elem g off dLen dCap ad sLen sCap cur t cs hu hsz hg hn hsrc hfit h1
  unfold Oper.wp
  simp only [execOp, ho, resolve, invoke, builtin, Sem.run_bind, Sem.run_pure, Result.andThen_ok, List.map_toArray, List.map_cons, List.map_nil, hd, hs, hrun]
  exact h
/-- A copy as a drawn region's last operation: the block's new row by name. -/
theorem wpAnyZ_copy_end {P : Program} {md : Region.Mode} {ops : Array Oper} {Q : Exit → Act → World → Prop} {S : World → Prop} {z fuel : Nat} {listed : Array Bool} {a : Act} {w : World} (i : Nat) {oi : Oper} (hi : ops.toList[i]? = some oi) (hr : Region.ready md ops listed = [i]) (hgd : oi.guard = none)
    (d s : Operand) (dT sT : TypeId)
    (ho : oi.op = .call { callee := .builtin .copy, args := #[d, s], argTypes := #[dT, sT] }) (elem : TypeId) (hu : P.underlying dT = some (.slice elem)) (hsz : (P.info? elem).map (·.size) = some 1)
    (g off dLen dCap : Nat) (ad : Addr) (sLen sCap : Nat) (hd : a.eval d = .slice (some ⟨g, off, none⟩) dLen dCap) (hs : a.eval s = .slice (some ad) sLen sCap)
    (cur : Array Value) (t : TypeId) (hg : Blk w g t cur) (cs : List Value) (hn : cs.length = Nat.min sLen dLen)
    (hsrc : ∀ j v, cs[j]? = some v → w.cell? (ad.add j) = some v) (hfit : off + cs.length ≤ cur.size) (h1 : ∀ v ∈ cs, v.oneCell' = true)
    (new : Array Value) (hnew : (cur.toList.take off ++ (cs ++ cur.toList.drop (off + cs.length))).toArray = new) (hz : (listed.setIfInBounds i true).getD z true = true)
    (hend : Region.ready md ops (listed.setIfInBounds i true) = [])
    (h : Q .normal (a.put oi.dst (goInt cs.length)) (w.setRow g new)) : wpAnyZ P md ops Q S z (fuel + 1) listed a w := by
  refine wpAnyZ_one hr ?_
  unfold wpOp
  rw [← Array.getElem?_toList, hi]
  have hw : Region.wanted oi (yielded ops a.tmps) = true := by simp [Region.wanted, hgd]
  simp only [hw, if_true]
  left
  refine wp_copy_own d s dT sT ho elem hu hsz g off dLen dCap ad sLen sCap hd hs cur t hg cs hn hsrc hfit h1 ?_
  rw [List.append_assoc, hnew]
  exact ⟨fun e => (by rw [hz] at e; cases e), wpAnyZ_done hend h _⟩

/-! Slices of slices. -/
theorem sp_one {w : World} {v : Value} {l : List Nat} (t : TypeId) (h : SB w v l) : SP (w.alloc (.cells #[v] t)) (.slice (some ⟨w.heap.size, 0, none⟩) 1 1) [l] := by
  refine ⟨_, 1, rfl, Nat.le_refl _, Or.inr ⟨w.heap.size, 0, rfl, by simp, fun i hi => ?_⟩⟩
  obtain rfl : i = 0 := by simp at hi; exact hi
  exact ⟨v, by rw [(Blk.new w t #[v]).cell]; rfl, h.below ((Below.refl _ _).alloc (Nat.le_refl _) _)⟩
theorem sp_two {w : World} {u v : Value} {l m : List Nat} (t : TypeId) (h : SB w u l) (k : SB w v m) : SP (w.alloc (.cells #[u, v] t)) (.slice (some ⟨w.heap.size, 0, none⟩) 2 2) [l, m] := by
  have b := (Below.refl w.heap.size w).alloc (Nat.le_refl _) (.cells #[u, v] t)
  refine ⟨_, 2, rfl, Nat.le_refl _, Or.inr ⟨w.heap.size, 0, rfl, by simp, fun i hi => ?_⟩⟩
  have hb := (Blk.new w t #[u, v]).cell i
  rw [Nat.zero_add]
  match i, hi with
  | 0, _ => exact ⟨u, hb, h.below b⟩
  | 1, _ => exact ⟨v, hb, k.below b⟩
theorem sp_three {w : World} {u v x : Value} {l m n : List Nat} (t : TypeId) (h : SB w u l) (k : SB w v m) (j : SB w x n) : SP (w.alloc (.cells #[u, v, x] t)) (.slice (some ⟨w.heap.size, 0, none⟩) 3 3) [l, m, n] := by
  have b := (Below.refl w.heap.size w).alloc (Nat.le_refl _) (.cells #[u, v, x] t)
  refine ⟨_, 3, rfl, Nat.le_refl _, Or.inr ⟨w.heap.size, 0, rfl, by simp, fun i hi => ?_⟩⟩
  have hb := (Blk.new w t #[u, v, x]).cell i
  rw [Nat.zero_add]
  match i, hi with
  | 0, _ => exact ⟨u, hb, h.below b⟩
  | 1, _ => exact ⟨v, hb, k.below b⟩
  | 2, _ => exact ⟨x, hb, j.below b⟩
theorem SB.cells {w : World} {v : Value} {l : List Nat} (h : SB w v l) : v.cells = #[v] := by
  obtain ⟨p, c, rfl, _⟩ := h
  rfl
theorem info_sl : (Tryd.prog.info? 24).map (·.size) = some 1 := by kernel_rfl
theorem zero_sl : ((Tryd.prog.info? 24).bind (·.zero)).isSome = true := by kernel_rfl
theorem under_sls : Tryd.prog.underlying 64 = some (.slice 24) := by kernel_rfl
theorem flat_ones : ∀ (vs : List Value), (∀ v ∈ vs, v.cells = #[v]) → (vs.flatMap fun v => v.cells.toList) = vs
  | [], _ => rfl
  | v :: vs, h => by rw [List.flatMap_cons, h v (by simp), flat_ones vs fun x hx => h x (by simp [hx])]; rfl
theorem run_lists (n : Nat) (parts : Array (Nat × Value)) (vs : List Value) (hp : parts.toList = (vs.zipIdx 0).map fun x => (x.2, x.1)) (hn : vs.length = n) (hpos : 0 < n) (hs : n ≤ 1000) (hc : ∀ v ∈ vs, v.cells = #[v]) (w : World) :
    (Instr.buildSlice 64 n parts).run Tryd.prog w = .ok (.slice (some ⟨w.heap.size, 0, none⟩) n n) (w.alloc (.cells vs.toArray 24)) := by
  have h1 := info_sl
  have h2 := zero_sl
  cases hie : Tryd.prog.info? 24 with
  | none => rw [hie] at h1; cases h1
  | some ie =>
    simp only [hie, Option.map_some, Option.some.injEq, Option.bind_some] at h1 h2
    obtain ⟨z, hz⟩ := Option.isSome_iff_exists.1 h2
    refine run_buildSlice w _ _ n parts _ ie z under_sls hie hz (by rw [h1]; omega) (by rw [h1]; omega) ?_
    rw [hp, h1]
    refine (Go.Great.fill_whole (show 0 < 1 by decide) vs _ (fun v hv => by rw [hc v hv]; rfl) (by simp [hn])).trans ?_
    rw [flat_ones vs hc]
theorem wp_lists {o : Oper} {a : Act} {w : World} {K : Act → World → Prop} {Q : Exit → Act → World → Prop} (n : Nat) (parts : Array (Nat × Operand)) (ho : o.op = .buildSlice 64 n parts)
    (vs : List Value) (hp : (parts.map fun (i, x) => (i, a.eval x)).toList = (vs.zipIdx 0).map fun x => (x.2, x.1)) (hn : vs.length = n) (hpos : 0 < n) (hs : n ≤ 1000) (hc : ∀ v ∈ vs, v.cells = #[v])
    (h : K (a.put o.dst (.slice (some ⟨w.heap.size, 0, none⟩) n n)) (w.alloc (.cells vs.toArray 24))) : o.wp Tryd.prog a w K Q := by
  unfold Oper.wp execOp
  simp only [ho, Sem.run_bind, run_lists n _ vs hp hn hpos hs hc w, Result.andThen_ok]
  exact h
/-- One slice, two, three, in the text's order. -/
theorem wpSeq_list1 {ops : Array Oper} {Q : Exit → Act → World → Prop} {o : Oper} {rest : List Oper} {a : Act} {w : World} (hw : Region.wanted o (yielded ops a.tmps) = true) (x0 : Operand) (ho : o.op = .buildSlice 64 1 #[(0, x0)])
    (v0 : Value) (l0 : List Nat) (h0 : a.eval x0 = v0) (s0 : SB w v0 l0)
    (h : ∀ v W, SP W v [l0] → Below w.heap.size w W → wpSeq Tryd.prog ops Q rest (a.put o.dst v) W) : wpSeq Tryd.prog ops Q (o :: rest) a w := by
  refine wpSeq_wp hw ?_
  refine wp_lists 1 _ ho [v0] (by simp [h0]) rfl (by decide) (by decide) (by intro v hv; rw [List.mem_singleton.1 hv]; exact SB.cells s0) ?_
  exact h _ _ (sp_one _ s0) ((Below.refl _ _).alloc (Nat.le_refl _) _)
theorem wpSeq_list2 {ops : Array Oper} {Q : Exit → Act → World → Prop} {o : Oper} {rest : List Oper} {a : Act} {w : World} (hw : Region.wanted o (yielded ops a.tmps) = true) (x0 x1 : Operand) (ho : o.op = .buildSlice 64 2 #[(0, x0), (1, x1)])
    (v0 v1 : Value) (l0 l1 : List Nat) (h0 : a.eval x0 = v0) (h1 : a.eval x1 = v1) (s0 : SB w v0 l0) (s1 : SB w v1 l1)
    (h : ∀ v W, SP W v [l0, l1] → Below w.heap.size w W → wpSeq Tryd.prog ops Q rest (a.put o.dst v) W) : wpSeq Tryd.prog ops Q (o :: rest) a w := by
  refine wpSeq_wp hw ?_
  refine wp_lists 2 _ ho [v0, v1] (by simp [h0, h1]) rfl (by decide) (by decide) (by
    intro v hv
    rcases List.mem_cons.1 hv with rfl | hv
    · exact SB.cells s0
    · rw [List.mem_singleton.1 hv]; exact SB.cells s1) ?_
  exact h _ _ (sp_two _ s0 s1) ((Below.refl _ _).alloc (Nat.le_refl _) _)
theorem wpAnyZ_list3 {md : Region.Mode} {ops : Array Oper} {Q : Exit → Act → World → Prop} {S : World → Prop} {z fuel : Nat} {listed : Array Bool} {a : Act} {w : World} (i : Nat) {oi : Oper} (hi : ops.toList[i]? = some oi) (hr : Region.ready md ops listed = [i]) (hgd : Region.wanted oi (yielded ops a.tmps) = true)
    (x0 x1 x2 : Operand) (ho : oi.op = .buildSlice 64 3 #[(0, x0), (1, x1), (2, x2)])
    (v0 v1 v2 : Value) (l0 l1 l2 : List Nat) (h0 : a.eval x0 = v0) (h1 : a.eval x1 = v1) (h2 : a.eval x2 = v2) (s0 : SB w v0 l0) (s1 : SB w v1 l1) (s2 : SB w v2 l2)
    (hS : ∀ W, Below w.heap.size w W → S W)
    (h : ∀ v W, SP W v [l0, l1, l2] → Below w.heap.size w W → wpAnyZ Tryd.prog md ops Q S z fuel (listed.setIfInBounds i true) (a.put oi.dst v) W) : wpAnyZ Tryd.prog md ops Q S z (fuel + 1) listed a w := by
  refine wpAnyZ_one hr ?_
  unfold wpOp
  rw [← Array.getElem?_toList, hi]
  simp only [hgd, if_true]
  left
  have b := (Below.refl w.heap.size w).alloc (Nat.le_refl _) (.cells #[v0, v1, v2] 24)
  exact wp_lists 3 _ ho [v0, v1, v2] (by simp [h0, h1, h2]) rfl (by decide) (by decide) (by
    intro v hv
    rcases List.mem_cons.1 hv with rfl | hv
    · exact SB.cells s0
    rcases List.mem_cons.1 hv with rfl | hv
    · exact SB.cells s1
    · rw [List.mem_singleton.1 hv]; exact SB.cells s2) ⟨fun _ => hS _ b, h _ _ (sp_three _ s0 s1 s2) b⟩
/-- A whole key, sliced. -/
theorem sb_key {w : World} {g : Nat} {t : TypeId} {n : Nat} (h : Blk w g t (Iv .u8 (keyOf n))) : SB w (.slice (some ⟨g, 0, none⟩) 32 32) (kb n) :=
  SB.of_ba' (BA.of_blk (t := t) (by rw [NI_kb]; exact h)) (kb_length n).symm (by rw [kb_length]; exact Nat.le_refl _)

/-! 64 bytes held against each other. -/
theorem eq_sgs (l1 l2 : List Int) (h1 : l1.length = 64) (h2 : l2.length = 64) (w : World) :
    (Op.equalIn 10000 27 (.agg (Iv .u8 l1)) (.agg (Iv .u8 l2))).run Tryd.prog w = .ok (decide (l1 = l2)) w := by
  obtain ⟨i, hi⟩ : ∃ i, Tryd.prog.info? 5 = some i := info_of_underlying Tryd.underlying5
  exact run_eq_ints w 9998 (n := 64) (e := 5) Tryd.underlying27 hi Tryd.underlying5 (by kernel_rfl) (by kernel_rfl) l1 l2 h1 h2
theorem eql_sgs (l1 l2 : List Int) (h1 : l1.length = 64) (h2 : l2.length = 64) (w : World) :
    (binOp .eql 27 (.agg (Iv .u8 l1)) (.agg (Iv .u8 l2))).run Tryd.prog w = .ok (.bool (decide (l1 = l2))) w := by
  rw [run_eql_struct, eq_sgs l1 l2 h1 h2]
  rfl
theorem eqg_sg : Tryd.prog.eqGuardType Tryd.prog.depth 27 = false := by kernel_rfl
theorem yieldsIf_eqsg {ops : Array Oper} {S : World → Prop} {o : Oper} {a : Act} (hgd : Region.wanted o (yielded ops a.tmps) = true) (x y : Operand) (ho : o.op = .binOp .eql 27 x y 27) (A B C D : Nat) (hx : a.eval x = .agg (Iv .u8 (Sg A B))) (hy : a.eval y = .agg (Iv .u8 (Sg C D)))
    (c : Bool) (hc : decide (Sg A B = Sg C D) = c) : YieldsIf Tryd.prog ops S o (.bool c) a := by
  refine Or.inl ⟨hgd, fun w _ => ?_⟩
  simp only [execOp, ho, hx, hy, Sem.run_bind, Sem.run_pure, Result.andThen_ok, run_eqGuard_agg (hm := eqg_sg), eql_sgs _ _ (Sg_length A B) (Sg_length C D), hc]
end Go.Proofs.YtmceebdaaegkeaaDoor
