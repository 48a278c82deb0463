/- mac: the contract of Sum. -/
import Derived.Test.YtjkocockbglenaaDoorMc
namespace Go.Proofs.YtjkocockbglenaaDoor
open Go.RowKit

theorem wpList_append_run {P : Program} {ops : Array Oper} {rest : List Oper} {o : Oper} {a : Act} {w : World} {Q : Exit → Act → World → Prop} (hgd : o.guard = none) (s x : Operand) (t u : TypeId)
    (ho : o.op = .call { callee := .builtin .append, args := #[s, x], argTypes := #[t, u] }) (v y : Value) (hs : a.eval s = v) (hx : a.eval x = y) (v' : Value) (w' : World)
    (hr : (Builtin.append_ #[t, u] o.type #[v, y]).run P w = .ok v' w') (h : wpList P ops Q rest (a.put o.dst v') w') : wpList P ops Q (o :: rest) a w :=
  wpList_plain hgd fun K hK => by
    unfold Oper.wp execOp
    simp only [ho, resolve, invoke, builtin, Sem.run_bind, Sem.run_pure, Result.andThen_ok, List.map_toArray, List.map_cons, List.map_nil, hs, hx, hr]
    exact hK _ _ h
section
variable {P : Program} {md : Region.Mode} {ops : Array Oper} {Q : Exit → Act → World → Prop} {S : World → Prop}
/-- Any operation, as the one that may come up. -/
theorem wpAnyZ_wp {z fuel : Nat} {listed : Array Bool} {a : Act} {w : World} (i : Nat) {oi : Oper} (hi : ops.toList[i]? = some oi) (hr : Region.ready md ops listed = [i]) (hgd : oi.guard = none)
    (h : oi.wp P a w (fun a' w' => ((listed.setIfInBounds i true).getD z true = false → S w') ∧ wpAnyZ P md ops Q S z fuel (listed.setIfInBounds i true) a' w') Q) : wpAnyZ P md ops Q S z (fuel + 1) listed a w := by
  refine wpAnyZ_one hr ?_
  unfold wpOp
  rw [← Array.getElem?_toList, hi]
  have hw : Region.wanted oi (yielded ops a.tmps) = true := by simp [Region.wanted, hgd]
  simp only [hw, if_true]
  left
  exact h
/-- A whole row stored, as the last operation. -/
theorem wpAnyZ_store_last {z fuel : Nat} {listed : Array Bool} {a : Act} {w : World} (i : Nat) {oi : Oper} (hi : ops.toList[i]? = some oi) (hr : Region.ready md ops listed = [i]) (hgd : oi.guard = none)
    (ty : TypeId) (x y : Operand) (ho : oi.op = .store ty x y) (g : Nat) (cells : Array Value) (hx : a.eval x = .pointer (some ⟨g, 0, none⟩)) (hy : a.eval y = .agg cells)
    (t : TypeId) (old : Array Value) (hg : Blk w g t old) (hinf : (P.info? ty).map (·.size) = some cells.size) (hold : old.size = cells.size) (h1 : cells.all (·.oneCell') = true) (hz : (listed.setIfInBounds i true).getD z true = true)
    (h : wpAnyZ P md ops Q S z fuel (listed.setIfInBounds i true) (a.put oi.dst undef) (w.setRow g cells)) : wpAnyZ P md ops Q S z (fuel + 1) listed a w :=
  wpAnyZ_wp i hi hr hgd (wp_store_row ty x y ho g cells hx hy t old hg hinf hold h1 ⟨(fun e => by rw [hz] at e; cases e), h⟩)
end
/-- The memory of Sum: the result's cell, the key's 64 bytes. -/
structure SmW (cu sq : Nat → Nat) (K : List Nat) (w wr : World) (gk : Nat) : Prop where
  res : Blk wr w.heap.size 25 (Iv .u8 (List.replicate 32 0))
  k : Blk wr gk 43 (Iv .u8 (NI K))
  tab : Tab wr cu
  sq : Sq wr sq
  b : Below w.heap.size w wr
theorem SmW.below {cu sq : Nat → Nat} {K : List Nat} {w wr w2 : World} {gk : Nat} (h : SmW cu sq K w wr gk) (hb : Below wr.heap.size wr w2) : SmW cu sq K w w2 gk := ⟨h.res.below' hb, h.k.below' hb, h.tab.below hb, h.sq.below hb, h.b.trans (hb.mono h.b.size)⟩

set_option maxHeartbeats 4000000 in
set_option maxRecDepth 100000 in
theorem sum_any (cu sq : Nat → Nat) (w : World) (v pv : Value) (l : List Nat) (ls : List (List Nat)) (T : Tab w cu) (S : Sq w sq) (hv : SB w v l) (hp : SP w pv ls) (hb : Bytes l) (hbs : ∀ x ∈ ls, Bytes x) (hne : ls ≠ []) (hn : ls.length ≤ 1000) (hl : l.length < 1152921504606846976) (hls : ls.flatten.length < 1152921504606846976) :
    Calls Tryd.prog 10 #[v, pv] w fun e w' => e = .returned (.agg (Iv .u8 (NI (hmac cu sq l ls.flatten)))) ∧ Below w.heap.size w w' := by
  have hv' := hv
  obtain ⟨p, c, rfl, _⟩ := hv'
  go_enter Tryd.func10, Tryd.ntmps10
  go_upto_region 1 with fail
  have b0 := (Below.refl w.heap.size w).alloc (Nat.le_refl _) (.cells (Iv .u8 (List.replicate 32 0)) 25)
  have R0 := Blk.new w 25 (Iv .u8 (List.replicate 32 0))
  change Code.wp _ _ _ _ (World.alloc w (.cells (Iv .u8 (List.replicate 32 0)) 25))
  generalize World.alloc w _ = W at b0 R0 ⊢
  replace hv := hv.below b0
  replace hp := hp.below b0
  replace T := T.below b0
  replace S := S.below b0
  have CZ := Lib.hid (sized_any cu sq W p c l T S hv hb (by omega))
  obtain ⟨K, hK⟩ : ∃ K, K = keyPad cu sq l := ⟨_, rfl⟩
  have lK : K.length = 64 := by rw [hK, keyPad_length]
  have bK : Bytes K := by rw [hK]; exact keyPad_bytes cu sq hb
  rw [← hK] at CZ
  obtain ⟨I, hI⟩ : ∃ I, I = sha cu sq (xorL 54 K ++ ls.flatten) := ⟨_, rfl⟩
  have lI : I.length = 32 := by rw [hI, sha_length]
  have bI : Bytes I := by rw [hI]; exact sha_bytes _ _ _
  have hO : hmac cu sq l ls.flatten = sha cu sq (xorL 92 K ++ I) := by rw [hI, hK]; rfl
  have HO := Lib.hid hO
  have HI := Lib.hid hI
  clear hO hI hK
  go_wp2_with fail
  refine CZ.out.mono ?_
  rintro _ w1 ⟨rfl, b1⟩
  have R1 := R0.below' b1
  have B1 := b0.trans (b1.mono b0.size)
  replace hp := hp.below b1
  replace T := T.below b1
  replace S := S.below b1
  clear CZ hv b0 b1 R0
  go_upto_region 2 with (refine wpList_store_row rfl 43 _ _ rfl (w1.heap.size) (Iv .u8 (NI K)) rfl rfl 43 _ (Blk.new w1 43 (Iv .u8 (List.replicate 64 0))) (info_64 _ (by rw [NI_length, lK])) (by rw [Iv_size, Iv_size, NI_length, lK]; rfl) (Iv_one _ _) ?_)
  change Code.wp _ _ _ _ (World.setRow (w1.alloc (.cells (Iv .u8 (List.replicate 64 0)) 43)) w1.heap.size _)
  have b2 := below_setRow ((Below.refl w1.heap.size w1).alloc (Nat.le_refl _) (.cells (Iv .u8 (List.replicate 64 0)) 43)) (Nat.le_refl w1.heap.size) (Iv .u8 (NI K))
  have F : SmW cu sq K w _ w1.heap.size := ⟨R1.below' b2, (Blk.new w1 43 (Iv .u8 (List.replicate 64 0))).row (Iv .u8 (NI K)), T.below b2, S.below b2, B1.trans (b2.mono B1.size)⟩
  replace hp := hp.below b2
  clear b2 R1 B1 T S
  generalize World.setRow _ _ _ = V at F hp ⊢
  generalize w1.heap.size = gk at F ⊢
  simp only [Act.put]
  have CJ := Lib.hid (joined_any 54 K V lK bK (by decide))
  go_upto_region 2 with fail
  go_wp2_with (refine wpList_load_row rfl 43 _ rfl gk rfl 43 _ (0, 0) _ F.k Tryd.underlying43 rfl (info_64 _ (by rw [NI_length, lK])) ?_)
  refine CJ.out.mono ?_
  rintro _ w2 ⟨rfl, A2, b2⟩
  replace F := F.below b2
  replace hp := hp.below b2
  clear CJ b2
  generalize V.heap.size = gj at A2 ⊢
  obtain ⟨v3, w3, r3, P3, b3⟩ := append_parts w2 42 _ pv _ ls (SB.of_ba (c := 64) A2 (by rw [xorL_length, lK]; exact Nat.le_refl _)) hp hne hn
  rw [xorL_length, lK] at r3
  replace F := F.below b3
  have C3 := Lib.hid (sum256_l cu sq w3 v3 _ F.tab F.sq P3 (fun x hx => by
    rcases List.mem_cons.1 hx with rfl | hx
    · exact xorL_bytes (by decide) bK
    · exact hbs x hx) (by simp; omega) (by rw [List.flatten_cons, List.length_append, xorL_length, lK]; omega))
  rw [List.flatten_cons, ← HI.out] at C3
  clear hp P3 A2
  go_wp2_with (refine wpList_append_run rfl _ _ _ _ rfl _ _ rfl rfl _ _ r3 ?_)
  refine C3.out.mono ?_
  rintro _ w4 ⟨rfl, b4⟩
  replace F := F.below b4
  clear C3 b4 b3 r3 HI
  go_upto_region 3 with (refine wpList_store_row rfl 25 _ _ rfl (w4.heap.size) (Iv .u8 (NI I)) rfl rfl 25 _ (Blk.new w4 25 (Iv .u8 (List.replicate 32 0))) (info_N32 _ lI) (by rw [Iv_size, Iv_size, NI_length, lI]; rfl) (Iv_one _ _) ?_)
  change Code.wp _ _ _ _ (World.setRow (w4.alloc (.cells (Iv .u8 (List.replicate 32 0)) 25)) w4.heap.size _)
  have b5 := below_setRow ((Below.refl w4.heap.size w4).alloc (Nat.le_refl _) (.cells (Iv .u8 (List.replicate 32 0)) 25)) (Nat.le_refl w4.heap.size) (Iv .u8 (NI I))
  have A5 := BA.of_blk ((Blk.new w4 25 (Iv .u8 (List.replicate 32 0))).row (Iv .u8 (NI I)))
  replace F := F.below b5
  clear b5
  generalize World.setRow _ _ _ = U at F A5 ⊢
  generalize w4.heap.size = gi at A5 ⊢
  simp only [Act.put]
  have hS : SmW cu sq K w (World.drew U) gk ∧ BA (World.drew U) gi 0 I := ⟨F.below (below_drew (Below.refl _ _)), A5.drew⟩
  clear F A5
  refine wp_region_Z (S := fun W' => SmW cu sq K w W' gk ∧ BA W' gi 0 I) 5 (by kernel_rfl) ?_
  generalize World.drew U = V5 at *
  refine wpAnyZ_takeL 0 rfl (by kernel_rfl) (by kernel_rfl) (by kernel_rfl) (by kernel_rfl) (by kernel_rfl) (fun _ _ _ h => h) (show YieldsIf _ _ _ _ (.agg (Iv .u8 (NI K))) _ from yieldsIf_row_wanted rfl 43 _ rfl gk rfl 43 _ _ (fun _ h => h.1.k) Tryd.underlying43 rfl (info_64 _ (by rw [NI_length, lK]))) hS ?_
  simp only [Act.put, List.setIfInBounds_toArray, List.set_cons_zero, List.set_cons_succ]
  refine wpAnyZ_takeL 2 (v := (.slice (some ⟨gi, 0, none⟩) 32 32)) rfl (by kernel_rfl) (by kernel_rfl) (by kernel_rfl) (by kernel_rfl) (by kernel_rfl) (fun _ _ _ h => h) (Or.inl ⟨by rfl, ?_⟩) hS ?_
  · intro w' _
    go_simp
  simp only [Act.put, List.setIfInBounds_toArray, List.set_cons_zero, List.set_cons_succ]
  refine wpAnyZ_one (i := 1) (by kernel_rfl) ?_
  unfold wpOp
  go_simp
  left
  refine (joined_any 92 K V5 lK bK (by decide)).mono ?_
  rintro _ w6 ⟨rfl, A6, b6⟩
  have hS6 : SmW cu sq K w w6 gk ∧ BA w6 gi 0 I := ⟨hS.1.below b6, hS.2.below b6⟩
  refine ⟨hS6, ?_⟩
  clear hS b6
  generalize V5.heap.size = gj at A6 ⊢
  refine wpAnyZ_one (i := 3) (by kernel_rfl) ?_
  unfold wpOp
  go_simp
  left
  have b7 := (Below.refl w6.heap.size w6).alloc (Nat.le_refl _) (.cells #[.slice (some ⟨gj, 0, none⟩) 64 64, .slice (some ⟨gi, 0, none⟩) 32 32] 22)
  have P7 := sp_two 22 (SB.of_ba' (c := 64) (n := 64) A6 (by rw [xorL_length, lK]) (by rw [xorL_length, lK]; exact Nat.le_refl _)) (SB.of_ba' (c := 32) (n := 32) hS6.2 lI.symm (by rw [lI]; exact Nat.le_refl _))
  have hS : SmW cu sq K w _ gk ∧ BA _ gi 0 I := ⟨hS6.1.below b7, hS6.2.below b7⟩
  refine ⟨hS, ?_⟩
  generalize World.alloc w6 _ = V7 at hS P7 ⊢
  clear hS6 A6 b7
  refine wpAnyZ_one (i := 4) (by kernel_rfl) ?_
  unfold wpOp
  go_simp
  left
  refine (sum256_l cu sq V7 _ _ hS.1.tab hS.1.sq P7 (fun x hx => by
    rcases List.mem_cons.1 hx with rfl | hx
    · exact xorL_bytes (by decide) bK
    · rw [List.mem_singleton.1 hx]; exact bI) (by simp) (by simp [xorL_length, lK, lI])).mono ?_
  rintro _ w8 ⟨rfl, b8⟩
  have F := hS.1.below b8
  refine ⟨⟨F, hS.2.below b8⟩, ?_⟩
  have e : sha cu sq [xorL 92 K, I].flatten = hmac cu sq l ls.flatten := by rw [HO.out]; simp
  have lO : (hmac cu sq l ls.flatten).length = 32 := hmac_length _ _ _ _
  rw [e]
  obtain ⟨O, hO⟩ : ∃ O, O = hmac cu sq l ls.flatten := ⟨_, rfl⟩
  rw [← hO] at lO ⊢
  have HO' := Lib.hid hO
  clear hS P7 b8 e HO hO
  refine wpAnyZ_store_last 5 rfl (by kernel_rfl) rfl _ _ _ rfl w.heap.size (Iv .u8 (NI O)) rfl rfl _ _ F.res (info_N32 _ lO) (by rw [Iv_size, Iv_size, NI_length, lO]; rfl) (Iv_one _ _) (by kernel_rfl) ?_
  refine wpAnyZ_done (by kernel_rfl) ?_ _
  have HR := F.res
  have HB := F.b
  clear F
  go_wp2
  exact bodyPost_ret (results_cell_row rfl _ _ _ 25 _ (0, 0) _ rfl (HR.row _) Tryd.underlying25 rfl (info_N32 _ lO)) rfl ⟨by rw [HO'.out], below_setRow HB (Nat.le_refl _) _⟩
end Go.Proofs.YtjkocockbglenaaDoor
