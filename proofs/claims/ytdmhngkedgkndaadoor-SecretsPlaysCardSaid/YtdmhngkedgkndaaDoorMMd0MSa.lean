/- mac: the contract of Sum. mac: the contract of Extract. mac: bytes out of a secret, by lists; append of bytes onto bytes of one's own. mac: the contract of Expand. Strings as bytes: appended, turned into a row of their own. -/
import Derived.Test.YtdmhngkedgkndaaDoorMMb0MMc
import Derived.Lib.AppendStr
import Derived.Lib.ConvBytes
namespace Go.Proofs.YtdmhngkedgkndaaDoor
open Go.RowKit
section
variable {P : Program} {md : Region.Mode} {ops : Array Oper} {Q : Exit → Act → World → Prop} {S : World → Prop}
/-- Any operation, as the one that may come up. -/
theorem wpAnyZ_wp {z fuel : Nat} {listed : Array Bool} {a : Act} {w : World} (i : Nat) {oi : Oper} (hi : ops.toList[i]? = some oi) (hr : Region.ready md ops listed = [i]) (hgd : oi.guard = none)
    (h : oi.wp P a w (fun a' w' => ((listed.setIfInBounds i true).getD z true = false → S w') ∧ wpAnyZ P md ops Q S z fuel (listed.setIfInBounds i true) a' w') Q) : wpAnyZ P md ops Q S z (fuel + 1) listed a w := by
  refine wpAnyZ_one hr ?_
  unfold wpOp
  rw [← Array.getElem?_toList, hi]
  have hw : Region.wanted oi (yielded ops a.tmps) = true := by simp [Region.wanted, hgd]
  simp only [hw, if_true]
  left
  exact h
/-- A whole row stored, as the last operation. -/
theorem wpAnyZ_store_last {z fuel : Nat} {listed : Array Bool} {a : Act} {w : World} (i : Nat) {oi : Oper} (hi : ops.toList[i]? = some oi) (hr : Region.ready md ops listed = [i]) (hgd : oi.guard = none)
    (ty : TypeId) (x y : Operand) (ho : oi.op = .store ty x y) (g : Nat) (cells : Array Value) (hx : a.eval x = .pointer (some ⟨g, 0, none⟩)) (hy : a.eval y = .agg cells)
    (t : TypeId) (old : Array Value) (hg : Blk w g t old) (hinf : (P.info? ty).map (·.size) = some cells.size) (hold : old.size = cells.size) (h1 : cells.all (·.oneCell') = true) (hz : (listed.setIfInBounds i true).getD z true = true)
    (h : wpAnyZ P md ops Q S z fuel (listed.setIfInBounds i true) (a.put oi.dst undef) (w.setRow g cells)) : wpAnyZ P md ops Q S z (fuel + 1) listed a w :=
  wpAnyZ_wp i hi hr hgd (wp_store_row ty x y ho g cells hx hy t old hg hinf hold h1 ⟨(fun e => by rw [hz] at e; cases e), h⟩)
end
/-- The memory of Sum: the result's cell, the key's 64 bytes. -/
structure SmW (cu sq : Nat → Nat) (K : List Nat) (w wr : World) (gk : Nat) : Prop where
  res : Blk wr w.heap.size 28 (Iv .u8 (List.replicate 32 0))
  k : Blk wr gk 74 (Iv .u8 (NI K))
  tab : Tab wr cu
  sq : Sq wr sq
  b : Below w.heap.size w wr
theorem SmW.below {cu sq : Nat → Nat} {K : List Nat} {w wr w2 : World} {gk : Nat} (h : SmW cu sq K w wr gk) (hb : Below wr.heap.size wr w2) : SmW cu sq K w w2 gk := ⟨h.res.below' hb, h.k.below' hb, h.tab.below hb, h.sq.below hb, h.b.trans (hb.mono h.b.size)⟩
set_option maxHeartbeats 4000000 in
set_option maxRecDepth 100000 in
theorem sum_any (cu sq : Nat → Nat) (w : World) (v pv : Value) (l : List Nat) (ls : List (List Nat)) (T : Tab w cu) (S : Sq w sq) (hv : SB w v l) (hp : SP w pv ls) (hb : Bytes l) (hbs : ∀ x ∈ ls, Bytes x) (hne : ls ≠ []) (hn : ls.length ≤ 1000) (hl : l.length < 1152921504606846976) (hls : ls.flatten.length < 1152921504606846976) :
    Calls Tryd.prog 31 #[v, pv] w fun e w' => e = .returned (.agg (Iv .u8 (NI (hmac cu sq l ls.flatten)))) ∧ Below w.heap.size w w' := by
  have hv' := hv
  obtain ⟨p, c, rfl, _⟩ := hv'
  go_enter Tryd.func31, Tryd.ntmps31
  go_upto_region 1 with fail
  have b0 := (Below.refl w.heap.size w).alloc (Nat.le_refl _) (.cells (Iv .u8 (List.replicate 32 0)) 28)
  have R0 := Blk.new w 28 (Iv .u8 (List.replicate 32 0))
  change Code.wp _ _ _ _ (World.alloc w (.cells (Iv .u8 (List.replicate 32 0)) 28))
  generalize World.alloc w _ = W at b0 R0 ⊢
  replace hv := hv.below b0
  replace hp := hp.below b0
  replace T := T.below b0
  replace S := S.below b0
  have CZ := Lib.hid (sized_any cu sq W p c l T S hv hb (by omega))
  obtain ⟨K, hK⟩ : ∃ K, K = keyPad cu sq l := ⟨_, rfl⟩
  have lK : K.length = 64 := by rw [hK, keyPad_length]
  have bK : Bytes K := by rw [hK]; exact keyPad_bytes cu sq hb
  rw [← hK] at CZ
  obtain ⟨I, hI⟩ : ∃ I, I = sha cu sq (xorL 54 K ++ ls.flatten) := ⟨_, rfl⟩
  have lI : I.length = 32 := by rw [hI, sha_length]
  have bI : Bytes I := by rw [hI]; exact sha_bytes _ _ _
  have hO : hmac cu sq l ls.flatten = sha cu sq (xorL 92 K ++ I) := by rw [hI, hK]; rfl
  have HO := Lib.hid hO
  have HI := Lib.hid hI
  clear hO hI hK
  go_wp2_with fail
  refine CZ.out.mono ?_
  rintro _ w1 ⟨rfl, b1⟩
  have R1 := R0.below' b1
  have B1 := b0.trans (b1.mono b0.size)
  replace hp := hp.below b1
  replace T := T.below b1
  replace S := S.below b1
  clear CZ hv b0 b1 R0
  go_upto_region 2 with (refine wpList_store_row rfl 74 _ _ rfl (w1.heap.size) (Iv .u8 (NI K)) rfl rfl 74 _ (Blk.new w1 74 (Iv .u8 (List.replicate 64 0))) (info_64 _ (by rw [NI_length, lK])) (by rw [Iv_size, Iv_size, NI_length, lK]; rfl) (Iv_one _ _) ?_)
  change Code.wp _ _ _ _ (World.setRow (w1.alloc (.cells (Iv .u8 (List.replicate 64 0)) 74)) w1.heap.size _)
  have b2 := below_setRow ((Below.refl w1.heap.size w1).alloc (Nat.le_refl _) (.cells (Iv .u8 (List.replicate 64 0)) 74)) (Nat.le_refl w1.heap.size) (Iv .u8 (NI K))
  have F : SmW cu sq K w _ w1.heap.size := ⟨R1.below' b2, (Blk.new w1 74 (Iv .u8 (List.replicate 64 0))).row (Iv .u8 (NI K)), T.below b2, S.below b2, B1.trans (b2.mono B1.size)⟩
  replace hp := hp.below b2
  clear b2 R1 B1 T S
  generalize World.setRow _ _ _ = V at F hp ⊢
  generalize w1.heap.size = gk at F ⊢
  simp only [Act.put]
  have CJ := Lib.hid (mjoined_any 54 K V lK bK (by decide))
  go_upto_region 2 with fail
  go_wp2_with (refine wpList_load_row rfl 74 _ rfl gk rfl 74 _ (0, 0) _ F.k Tryd.underlying74 rfl (info_64 _ (by rw [NI_length, lK])) ?_)
  refine CJ.out.mono ?_
  rintro _ w2 ⟨rfl, A2, b2⟩
  replace F := F.below b2
  replace hp := hp.below b2
  clear CJ b2
  generalize V.heap.size = gj at A2 ⊢
  obtain ⟨v3, w3, r3, P3, b3⟩ := append_parts w2 55 _ pv _ ls (SB.of_ba (c := 64) A2 (by rw [xorL_length, lK]; exact Nat.le_refl _)) hp hne hn
  rw [xorL_length, lK] at r3
  replace F := F.below b3
  have C3 := Lib.hid (sum256_l cu sq w3 v3 _ F.tab F.sq P3 (fun x hx => by
    rcases List.mem_cons.1 hx with rfl | hx
    · exact xorL_bytes (by decide) bK
    · exact hbs x hx) (by simp; omega) (by rw [List.flatten_cons, List.length_append, xorL_length, lK]; omega))
  rw [List.flatten_cons, ← HI.out] at C3
  clear hp P3 A2
  go_wp2_with (refine wpList_append_run rfl _ _ _ _ rfl _ _ rfl rfl _ _ r3 ?_)
  refine C3.out.mono ?_
  rintro _ w4 ⟨rfl, b4⟩
  replace F := F.below b4
  clear C3 b4 b3 r3 HI
  go_upto_region 3 with (refine wpList_store_row rfl 28 _ _ rfl (w4.heap.size) (Iv .u8 (NI I)) rfl rfl 28 _ (Blk.new w4 28 (Iv .u8 (List.replicate 32 0))) (info_N32 _ lI) (by rw [Iv_size, Iv_size, NI_length, lI]; rfl) (Iv_one _ _) ?_)
  change Code.wp _ _ _ _ (World.setRow (w4.alloc (.cells (Iv .u8 (List.replicate 32 0)) 28)) w4.heap.size _)
  have b5 := below_setRow ((Below.refl w4.heap.size w4).alloc (Nat.le_refl _) (.cells (Iv .u8 (List.replicate 32 0)) 28)) (Nat.le_refl w4.heap.size) (Iv .u8 (NI I))
  have A5 := BA.of_blk ((Blk.new w4 28 (Iv .u8 (List.replicate 32 0))).row (Iv .u8 (NI I)))
  replace F := F.below b5
  clear b5
  generalize World.setRow _ _ _ = U at F A5 ⊢
  generalize w4.heap.size = gi at A5 ⊢
  simp only [Act.put]
  have hS : SmW cu sq K w (World.drew U) gk ∧ BA (World.drew U) gi 0 I := ⟨F.below (below_drew (Below.refl _ _)), A5.drew⟩
  clear F A5
  refine wp_region_Z (S := fun W' => SmW cu sq K w W' gk ∧ BA W' gi 0 I) 5 (by kernel_rfl) ?_
  generalize World.drew U = V5 at *
  refine wpAnyZ_takeL 0 rfl (by kernel_rfl) (by kernel_rfl) (by kernel_rfl) (by kernel_rfl) (by kernel_rfl) (fun _ _ _ h => h) (show YieldsIf _ _ _ _ (.agg (Iv .u8 (NI K))) _ from yieldsIf_row_wanted rfl 74 _ rfl gk rfl 74 _ _ (fun _ h => h.1.k) Tryd.underlying74 rfl (info_64 _ (by rw [NI_length, lK]))) hS ?_
  simp only [Act.put, List.setIfInBounds_toArray, List.set_cons_zero, List.set_cons_succ]
  refine wpAnyZ_takeL 2 (v := (.slice (some ⟨gi, 0, none⟩) 32 32)) rfl (by kernel_rfl) (by kernel_rfl) (by kernel_rfl) (by kernel_rfl) (by kernel_rfl) (fun _ _ _ h => h) (Or.inl ⟨by rfl, ?_⟩) hS ?_
  · intro w' _
    go_simp
  simp only [Act.put, List.setIfInBounds_toArray, List.set_cons_zero, List.set_cons_succ]
  refine wpAnyZ_one (i := 1) (by kernel_rfl) ?_
  unfold wpOp
  go_simp
  left
  refine (mjoined_any 92 K V5 lK bK (by decide)).mono ?_
  rintro _ w6 ⟨rfl, A6, b6⟩
  have hS6 : SmW cu sq K w w6 gk ∧ BA w6 gi 0 I := ⟨hS.1.below b6, hS.2.below b6⟩
  refine ⟨hS6, ?_⟩
  clear hS b6
  generalize V5.heap.size = gj at A6 ⊢
  refine wpAnyZ_one (i := 3) (by kernel_rfl) ?_
  unfold wpOp
  go_simp
  left
  have b7 := (Below.refl w6.heap.size w6).alloc (Nat.le_refl _) (.cells #[.slice (some ⟨gj, 0, none⟩) 64 64, .slice (some ⟨gi, 0, none⟩) 32 32] 22)
  have P7 := sp_two 22 (SB.of_ba' (c := 64) (n := 64) A6 (by rw [xorL_length, lK]) (by rw [xorL_length, lK]; exact Nat.le_refl _)) (SB.of_ba' (c := 32) (n := 32) hS6.2 lI.symm (by rw [lI]; exact Nat.le_refl _))
  have hS : SmW cu sq K w _ gk ∧ BA _ gi 0 I := ⟨hS6.1.below b7, hS6.2.below b7⟩
  refine ⟨hS, ?_⟩
  generalize World.alloc w6 _ = V7 at hS P7 ⊢
  clear hS6 A6 b7
  refine wpAnyZ_one (i := 4) (by kernel_rfl) ?_
  unfold wpOp
  go_simp
  left
  refine (sum256_l cu sq V7 _ _ hS.1.tab hS.1.sq P7 (fun x hx => by
    rcases List.mem_cons.1 hx with rfl | hx
    · exact xorL_bytes (by decide) bK
    · rw [List.mem_singleton.1 hx]; exact bI) (by simp) (by simp [xorL_length, lK, lI])).mono ?_
  rintro _ w8 ⟨rfl, b8⟩
  have F := hS.1.below b8
  refine ⟨⟨F, hS.2.below b8⟩, ?_⟩
  have e : sha cu sq [xorL 92 K, I].flatten = hmac cu sq l ls.flatten := by rw [HO.out]; simp
  have lO : (hmac cu sq l ls.flatten).length = 32 := hmac_length _ _ _ _
  rw [e]
  obtain ⟨O, hO⟩ : ∃ O, O = hmac cu sq l ls.flatten := ⟨_, rfl⟩
  rw [← hO] at lO ⊢
  have HO' := Lib.hid hO
  clear hS P7 b8 e HO hO
  refine wpAnyZ_store_last 5 rfl (by kernel_rfl) rfl _ _ _ rfl w.heap.size (Iv .u8 (NI O)) rfl rfl _ _ F.res (info_N32 _ lO) (by rw [Iv_size, Iv_size, NI_length, lO]; rfl) (Iv_one _ _) (by kernel_rfl) ?_
  refine wpAnyZ_done (by kernel_rfl) ?_ _
  have HR := F.res
  have HB := F.b
  clear F
  go_wp2
  exact bodyPost_ret (results_cell_row rfl _ _ _ 28 _ (0, 0) _ rfl (HR.row _) Tryd.underlying28 rfl (info_N32 _ lO)) rfl ⟨by rw [HO'.out], below_setRow HB (Nat.le_refl _) _⟩
end Go.Proofs.YtdmhngkedgkndaaDoor
namespace Go.Proofs.YtdmhngkedgkndaaDoor
open Go.RowKit
set_option maxHeartbeats 4000000 in
set_option maxRecDepth 100000 in
theorem extract_any (cu sq : Nat → Nat) (w : World) (v pv : Value) (l m : List Nat) (T : Tab w cu) (S : Sq w sq) (hv : SB w v l) (hp : SB w pv m) (hb : Bytes l) (hbs : Bytes m) (hl : l.length < 1152921504606846976) (hls : m.length < 1152921504606846976) :
    Calls Tryd.prog 21 #[v, pv] w fun e w' => e = .returned (.agg (Iv .u8 (NI (hmac cu sq l m)))) ∧ Below w.heap.size w w' := by
  have hp' := hp
  obtain ⟨pp, cp, rfl, _⟩ := hp'
  go_enter Tryd.func21, Tryd.ntmps21
  go_upto_region 1 with fail
  have b0 := (Below.refl w.heap.size w).alloc (Nat.le_refl _) (.cells (Iv .u8 (List.replicate 32 0)) 28)
  have R0 := Blk.new w 28 (Iv .u8 (List.replicate 32 0))
  change Code.wp _ _ _ _ (World.alloc w (.cells (Iv .u8 (List.replicate 32 0)) 28))
  generalize World.alloc w _ = W at b0 R0 ⊢
  replace hv := hv.below b0
  replace hp := hp.below b0
  replace T := T.below b0
  replace S := S.below b0
  have b1 := (Below.refl W.heap.size W).alloc (Nat.le_refl _) (.cells #[.slice pp m.length cp] 22)
  have CS := Lib.hid (sum_any cu sq _ v _ l [m] (T.below b1) (S.below b1) (hv.below b1) (sp_one 22 hp) hb (fun x hx => by rw [List.mem_singleton.1 hx]; exact hbs) (by simp) (by simp) hl (by simp; omega))
  rw [show [m].flatten = m by simp] at CS
  obtain ⟨O, hO⟩ : ∃ O, O = hmac cu sq l m := ⟨_, rfl⟩
  have lO : O.length = 32 := by rw [hO]; exact hmac_length _ _ _ _
  rw [← hO] at CS
  have HO := Lib.hid hO
  clear hO T S hv hp
  go_wp2_with fail
  refine CS.out.mono ?_
  rintro _ w2 ⟨rfl, b2⟩
  have HR := (R0.below' b1).below' b2
  have HB := b0.trans ((b1.trans (b2.mono b1.size)).mono b0.size)
  clear CS b1 b2 b0 R0
  go_wp2_with (refine wpList_store_row rfl 28 _ _ rfl (w.heap.size) (Iv .u8 (NI O)) rfl rfl 28 _ HR (info_N32 _ lO) (by rw [Iv_size, Iv_size, NI_length, lO]; rfl) (Iv_one _ _) ?_)
  exact bodyPost_ret (results_cell_row rfl _ _ _ 28 _ (0, 0) _ rfl (HR.row _) Tryd.underlying28 rfl (info_N32 _ lO)) rfl ⟨by rw [HO.out], below_setRow HB (Nat.le_refl _) _⟩
end Go.Proofs.YtdmhngkedgkndaaDoor
namespace Go.Proofs.YtdmhngkedgkndaaDoor
open Go.RowKit
/-- The row of sums: each of the one ahead, the purpose, and its number. -/
def Ti (cu sq : Nat → Nat) (s info : List Nat) : Nat → List Nat
  | 0 => []
  | k + 1 => hmac cu sq s [Ti cu sq s info k, info, [(k + 1) % 256]].flatten
theorem Ti_bytes (cu sq : Nat → Nat) (s info : List Nat) : ∀ k, Bytes (Ti cu sq s info k)
  | 0 => Bytes.nil
  | _k + 1 => hmac_bytes _ _ _ _
theorem Ti_length (cu sq : Nat → Nat) (s info : List Nat) (k : Nat) : (Ti cu sq s info (k + 1)).length = 32 := hmac_length _ _ _ _
theorem Ti_le (cu sq : Nat → Nat) (s info : List Nat) : ∀ k, (Ti cu sq s info k).length ≤ 32
  | 0 => Nat.zero_le _
  | _k + 1 => Nat.le_of_eq (Ti_length _ _ _ _ _)
def okm (cu sq : Nat → Nat) (s info : List Nat) : Nat → List Nat
  | 0 => []
  | k + 1 => okm cu sq s info k ++ Ti cu sq s info (k + 1)
theorem okm_length (cu sq : Nat → Nat) (s info : List Nat) : ∀ k, (okm cu sq s info k).length = 32 * k
  | 0 => rfl
  | k + 1 => by
    show (okm cu sq s info k ++ Ti cu sq s info (k + 1)).length = _
    rw [List.length_append, okm_length cu sq s info k, Ti_length]
    omega
theorem okm_bytes (cu sq : Nat → Nat) (s info : List Nat) : ∀ k, Bytes (okm cu sq s info k)
  | 0 => Bytes.nil
  | k + 1 => (okm_bytes cu sq s info k).append (Ti_bytes _ _ _ _ _)
/-- The first n bytes out of a secret. -/
def expandL (cu sq : Nat → Nat) (s info : List Nat) (n : Nat) : List Nat := (okm cu sq s info ((n + 31) / 32)).take n
theorem expandL_length (cu sq : Nat → Nat) (s info : List Nat) (n : Nat) : (expandL cu sq s info n).length = n := by
  unfold expandL
  rw [List.length_take, okm_length]
  omega
theorem expandL_bytes (cu sq : Nat → Nat) (s info : List Nat) (n : Nat) : Bytes (expandL cu sq s info n) := (okm_bytes _ _ _ _ _).take n
end Go.Proofs.YtdmhngkedgkndaaDoor
namespace Go.Proofs.YtdmhngkedgkndaaDoor
open Go.RowKit
structure ExW (cu sq : Nat → Nat) (s info : List Nat) (w wr : World) (vb vl : Value) (k : Nat) : Prop where
  sec : Blk wr w.heap.size 28 (Iv .u8 (NI s))
  own : OwL (w.heap.size + 1) wr vb (okm cu sq s info k)
  last : SB wr vl (Ti cu sq s info k)
  b : Below w.heap.size w wr
theorem ExW.below {cu sq : Nat → Nat} {s info : List Nat} {w wr w2 : World} {vb vl : Value} {k : Nat} (h : ExW cu sq s info w wr vb vl k) (hb : Below wr.heap.size wr w2) : ExW cu sq s info w w2 vb vl k :=
  ⟨h.sec.below' hb, h.own.below hb, h.last.below hb, h.b.trans (hb.mono h.b.size)⟩
set_option maxHeartbeats 4000000 in
set_option maxRecDepth 100000 in
theorem expand_any (cu sq : Nat → Nat) (w : World) (s info : List Nat) (v : Value) (n : Nat) (T : Tab w cu) (S : Sq w sq) (ls : s.length = 32) (bs : Bytes s) (hv : SB w v info) (bi : Bytes info) (li : info.length < 1000000) (hn : n ≤ 8160) :
    Calls Tryd.prog 42 #[.agg (Iv .u8 (NI s)), v, .int .i64 (n : Int)] w fun e w' => ∃ p, e = .returned (.tuple #[.slice p n n, .int .i64 0]) ∧ SB w' (.slice p n n) (expandL cu sq s info n) ∧ Below w.heap.size w w' ∧ (p = none ∨ ∃ g, p = some ⟨g, 0, none⟩ ∧ w.heap.size ≤ g) := by
  have hv' := hv
  obtain ⟨pp, cp, rfl, _⟩ := hv'
  go_enter Tryd.func42, Tryd.ntmps42
  have i0 : ¬ ((n : Int) < 0) := by omega
  have i1 : ¬ (8160 < (n : Int)) := by omega
  go_upto_region 3 with fail
  have F0 : ExW cu sq s info w (w.alloc (.cells (Iv .u8 (NI s)) 28)) (.slice none 0 0) (.slice none 0 0) 0 :=
    ⟨Blk.new _ _ _, OwL.nil _ _, SB.nil _ _ _, (Below.refl _ _).alloc (Nat.le_refl _) _⟩
  generalize World.alloc w _ = W at F0 ⊢
  clear i0 i1
  go_wp2_with fail
  go_loopw [8, 9, 10] (fun vb vl i wr => ∃ k : Nat, k ≤ (n + 31) / 32 ∧ i = .int .i64 ((k + 1 : Nat) : Int) ∧ ExW cu sq s info w wr vb vl k) (fun _ _ i _ => 300 - (intOf i).toNat)
  case atStart => exact ⟨0, by omega, rfl, F0⟩
  case round =>
    obtain ⟨k, hk, rfl, F⟩ := hrel
    clear F0
    have lo := okm_length cu sq s info k
    by_cases hlt : 32 * k < n
    · obtain ⟨pb, cb, eb, hcb, _⟩ := F.own.sb
      rw [lo] at eb hcb
      subst eb
      obtain ⟨pl, cl, rfl, _⟩ := F.last
      have FB := F.b
      have d1 := (Below.refl wr.heap.size wr).alloc (Nat.le_refl _) (.cells #[.int .u8 ((k : Int) + 1)] 5)
      have X1 : SB (wr.alloc (.cells #[.int .u8 ((k : Int) + 1)] 5)) (.slice (some ⟨wr.heap.size, 0, none⟩) 1 1) [(k + 1) % 256] := by
        have h := Blk.new wr 5 (Iv .u8 (NI [(k + 1) % 256]))
        have hb := BA.of_blk h
        rw [show Iv .u8 (NI [(k + 1) % 256]) = #[.int .u8 ((k : Int) + 1)] by rw [Nat.mod_eq_of_lt (by omega)]; rfl] at hb
        exact SB.of_ba' hb rfl (Nat.le_refl _)
      have d2 := (Below.refl _ (wr.alloc (.cells #[.int .u8 ((k : Int) + 1)] 5))).alloc (Nat.le_refl _) (.cells #[.slice pl (Ti cu sq s info k).length cl, .slice pp info.length cp, .slice (some ⟨wr.heap.size, 0, none⟩) 1 1] 22)
      have P2 := sp_three 22 (F.last.below d1) ((hv.below FB).below d1) X1
      have d3 := d1.trans (d2.mono d1.size)
      have S2 : SB _ (.slice (some ⟨w.heap.size, 0, none⟩) 32 32) s := SB.of_ba' (c := 32) (n := 32) ((BA.of_blk F.sec).below d3) ls.symm (by rw [ls]; exact Nat.le_refl _)
      have CS := Lib.hid (sum_any cu sq _ (.slice (some ⟨w.heap.size, 0, none⟩) 32 32) _ s _ ((T.below FB).below d3) ((S.below FB).below d3) S2 P2 bs (fun x hx => by
        simp only [List.mem_cons, List.not_mem_nil, or_false] at hx
        rcases hx with rfl | rfl | rfl
        · exact Ti_bytes _ _ _ _ _
        · exact bi
        · exact fun y hy => by rw [List.mem_singleton.1 hy]; exact Nat.mod_lt _ (by decide)) (by simp) (by simp) (by omega) (by have := Ti_le cu sq s info k; simp; omega))
      have eT : hmac cu sq s [Ti cu sq s info k, info, [(k + 1) % 256]].flatten = Ti cu sq s info (k + 1) := rfl
      rw [eT, size_alloc] at CS
      have lT := Ti_length cu sq s info k
      obtain ⟨t, ht⟩ : ∃ t, t = Ti cu sq s info (k + 1) := ⟨_, rfl⟩
      rw [← ht] at lT CS
      have HT := Lib.hid ht
      clear ht
      have j2 : ((32 * k : Nat) : Int) < (n : Int) := by omega
      clear X1 P2 S2 eT d1 d2 lo
      go_upto_region 7 with fail
      go_wp2_with fail
      refine CS.out.mono ?_
      rintro _ w1 ⟨rfl, b1⟩
      have F1 := F.below (d3.trans (b1.mono d3.size))
      have ow1 := F1.own.lt
      clear CS b1 d3 F
      go_upto_region 8 with (refine wpList_store_row rfl 28 _ _ rfl (w1.heap.size) (Iv .u8 (NI t)) rfl rfl 28 _ (Blk.new w1 28 (Iv .u8 (List.replicate 32 0))) (info_N32 _ lT) (by rw [Iv_size, Iv_size, NI_length, lT]; rfl) (Iv_one _ _) ?_)
      change Code.wp _ _ _ _ (World.setRow (w1.alloc (.cells (Iv .u8 (List.replicate 32 0)) 28)) w1.heap.size _)
      have b2 := below_setRow ((Below.refl w1.heap.size w1).alloc (Nat.le_refl _) (.cells (Iv .u8 (List.replicate 32 0)) 28)) (Nat.le_refl w1.heap.size) (Iv .u8 (NI t))
      have A2 := BA.of_blk ((Blk.new w1 28 (Iv .u8 (List.replicate 32 0))).row (Iv .u8 (NI t)))
      replace F1 := F1.below b2
      clear b2
      generalize World.setRow _ _ _ = V at F1 A2 ⊢
      generalize w1.heap.size = G at A2 ow1 ⊢
      simp only [Act.put]
      have lo := okm_length cu sq s info k
      obtain ⟨v3, w3, r3, O3, g3, _⟩ := append_ba (w.heap.size + 1) V 22 _ _ t F1.own G 0 32 A2 (by rw [lo, lT]; omega) (by have := F1.sec.lt; omega)
      rw [lT] at r3
      have F3 : ExW cu sq s info w w3 v3 (.slice (some ⟨G, 0, none⟩) 32 32) (k + 1) := by
        refine ⟨(g3.block _ F1.sec.lt (fun e => ?_)).trans F1.sec, by rw [HT.out] at O3; exact O3, ?_, below_grown' F1.b g3 (fun j hj => ?_) F1.b.size⟩
        · have := ow1 _ e.symm
          omega
        · rw [← HT.out]
          exact SB.of_ba' (A2.of_block (g3.block _ A2.blk (fun e => by have := ow1 _ e.symm; omega))) lT.symm (by rw [lT]; exact Nat.le_refl _)
        · have := ow1 _ hj
          omega
      have HF := Lib.hid F3
      clear F1 F3 A2 O3 g3 ow1 HT lo
      go_wp2_with (refine wpList_append_run rfl _ _ _ _ rfl _ _ rfl rfl _ _ r3 ?_)
      exact ⟨⟨k + 1, by omega, by go_num, HF.out⟩, by simp [intOf]; omega⟩
    · obtain ⟨pb, cb, eb, hcb, _⟩ := F.own.sb
      rw [lo] at eb hcb
      subst eb
      have ek : k = (n + 31) / 32 := by omega
      have j2 : ¬ (((32 * k : Nat) : Int) < (n : Int)) := by omega
      have FB := F.b
      have O := F.own
      have e1 : expandL cu sq s info n = (okm cu sq s info k).take n := by rw [ek]; rfl
      have H : SB wr (.slice pb n n) (expandL cu sq s info n) ∧ (pb = none ∨ ∃ g, pb = some ⟨g, 0, none⟩ ∧ w.heap.size ≤ g) := by
        have ln := expandL_length cu sq s info n
        rcases O.row with ⟨e, _⟩ | ⟨g, cap, e, hg, _, _, hb, _⟩
        · simp only [Value.slice.injEq] at e
          obtain ⟨rfl, _, _⟩ := e
          have h0 : n = 0 := by omega
          refine ⟨⟨none, n, by rw [ln], by omega, Or.inl (List.eq_nil_of_length_eq_zero (by omega))⟩, Or.inl rfl⟩
        · simp only [Value.slice.injEq] at e
          obtain ⟨rfl, _, _⟩ := e
          rw [e1] at ln ⊢
          exact ⟨SB.of_ba' (hb.take n) ln.symm (by omega), Or.inr ⟨g, rfl, by omega⟩⟩
      have k0 : (0 : Int) ≤ (n : Int) := by omega
      have k1 : (n : Int) ≤ (cb : Int) := by omega
      have k2 : n ≤ cb := by omega
      have HH := Lib.hid H
      clear H F O e1 ek
      go_wp2
      exact bodyPost_ret (results_tmp2 rfl _ _ _) rfl ⟨pb, rfl, HH.out.1, FB, HH.out.2⟩
end Go.Proofs.YtdmhngkedgkndaaDoor
namespace Go.Proofs.YtdmhngkedgkndaaDoor
open Go.RowKit
theorem bL_bytes (s : ByteArray) : Bytes (bL s) := fun x hx => by
  obtain ⟨b, _, rfl⟩ := List.mem_map.1 hx
  exact b.toNat_lt
theorem bL_append (a b : ByteArray) : bL (a ++ b) = bL a ++ bL b := by
  simp [bL, ByteArray.data_append]
theorem append_str (B : Nat) (w : World) (ty : TypeId) (v : Value) (l : List Nat) (s : ByteArray) (hv : OwL B w v l) (hl : l.length + s.size ≤ 70368744177664) (hB : B ≤ w.heap.size) :
    ∃ v' w', (Builtin.append_ #[22, 9] ty #[v, .string s]).run Tryd.prog w = .ok v' w' ∧ OwL B w' v' (l ++ bL s) ∧ w.grownBy w' v.ownBlock := by
  obtain ⟨i, hi, hs, hy, hz⟩ := info_u8
  obtain ⟨v', w', hr, h2, h3, _⟩ := Lib.run_append_own_string (P := Tryd.prog) w B 22 9 ty 5 i Tryd.underlying22 Tryd.underlying9 hi hz hs hy v l.length (vals l) hv s (by simp only [maxLen]; omega) (by omega) hB
  refine ⟨v', w', hr, ?_, h3⟩
  unfold OwL
  rw [List.length_append, vals_append, bL_length, ← strCells_vals]
  exact h2
theorem conv_str (w : World) (s : ByteArray) : ∃ v w', (convert 9 22 (.string s)).run Tryd.prog w = .ok v w' ∧ SB w' v (bL s) ∧ Below w.heap.size w w' := by
  refine ⟨_, _, Lib.run_convert_string_bytes w 9 22 5 s Tryd.underlying9 Tryd.underlying22 Tryd.underlying5, ?_, ?_⟩
  · refine SB.of_ba' ⟨fun i hi => ?_, ?_⟩ (bL_length s).symm ?_
    · rw [bL_length] at hi
      rw [Nat.zero_add, Lib.bytesWorld_cell _ _ _ _ hi]
      simp [bL, hi]
    · rw [Lib.bytesWorld_size]
      omega
    · rw [bL_length]
      exact grownCap_ge _ _ _ _
  · exact ⟨rfl, rfl, rfl, by rw [Lib.bytesWorld_size]; omega, fun k hk => Lib.bytesWorld_at_old _ _ _ k hk⟩
end Go.Proofs.YtdmhngkedgkndaaDoor
