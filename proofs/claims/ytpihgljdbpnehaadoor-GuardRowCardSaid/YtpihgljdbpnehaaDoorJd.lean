/- The law GuardRow (printed by gen13/jd.py). -/
import Derived.Test.YtpihgljdbpnehaaDoorGf0Qa
import Derived.Test.YtpihgljdbpnehaaDoorQf
namespace Go.Proofs.YtpihgljdbpnehaaDoor
open Go.RowKit
theorem putF_two (to fr fr2 : List Nat) (pn : Nat) (k z : Int) : putF 2 to fr pn k z = putF 2 to fr2 pn k z := by
  have e : ∀ f : List Nat, badH 2 to.length f.length k z ↔ (to.length ≠ 8 ∨ k < 1 ∨ 4 < k ∨ z < 0 ∨ 1200 < z) := fun f => by unfold badH; omega
  unfold putF
  by_cases h : (to.length ≠ 8 ∨ k < 1 ∨ 4 < k ∨ z < 0 ∨ 1200 < z)
  · rw [if_pos ((e fr).2 h), if_pos ((e fr2).2 h)]
  · rw [if_neg (fun x => h ((e fr).1 x)), if_neg (fun x => h ((e fr2).1 x))]
    rfl
theorem sealG_two (K N Mk to fr fr2 : List Nat) (pn acked : Nat) (b : List Nat) : sealG K N Mk 2 to fr pn acked b = sealG K N Mk 2 to fr2 pn acked b := by
  unfold sealG
  rw [putF_two to fr fr2]
theorem yieldsIf_strNe {ops : Array Oper} {S : World → Prop} {o : Oper} {a : Act} (hgd : Region.wanted o (yielded ops a.tmps) = true) (x y : Operand) (ho : o.op = .binOp .neq 9 x y 9) (l m : List Nat) (hx : a.eval x = .string (strB l)) (hy : a.eval y = .string (strB m)) (h : l = m) : YieldsIf Tryd.prog ops S o (.bool false) a := yieldsIf_strN hgd x y ho l m hx hy h
set_option maxHeartbeats 16000000 in
set_option maxRecDepth 100000 in
theorem grow_c (OC : OfC) (FC : FirstC) (SC : GSealC) (PC : GOpenC) (s bb st : List Nat) (fi : Nat) (vs vb : Value) (W : World) (ls : s.length = 32) (bs : Bytes s) (b3 : Bytes bb) (b4 : Bytes st) (hfi : fi < 18446744073709551616) (h3 : SB W vb bb) (h4 : SB W vs st) (T : Tab W cuT) (Q : Sq W sqT) :
    Calls Tryd.prog 7 #[.agg (Iv .u8 (NI s)), .int .u64 (fi : Int), vs, vb] W fun e w' => e = .returned (.bool true) ∧ Below W.heap.size W w' := by
  have AW := Lib.hid (fun w (h : Below W.heap.size W w) => gawake_c OC FC w (T.below h) (Q.below h))
  have OCC := Lib.hid (fun w (h : Below W.heap.size W w) => OC s ls bs w (T.below h) (Q.below h))
  obtain ⟨p3, c3, rfl⟩ := h3.shape
  obtain ⟨p4, c4, rfl⟩ := h4.shape
  obtain ⟨k3, hk3⟩ : ∃ k, bb.length = k := ⟨_, rfl⟩
  obtain ⟨m4, hm4⟩ : ∃ k, st.length = k := ⟨_, rfl⟩
  rw [hk3] at h3 ⊢
  rw [hm4] at h4 ⊢
  have HL3 := Lib.hid hk3
  have HL4 := Lib.hid hm4
  have H3 := Lib.hid h3
  have H4 := Lib.hid h4
  have B3 := Lib.hid b3
  have B4 := Lib.hid b4
  obtain ⟨SS, hSS⟩ : ∃ SS, Iv .u8 (NI s) = SS := ⟨_, rfl⟩
  rw [hSS] at OCC ⊢
  have ksz : (Tryd.prog.info? 23).map (·.size) = some SS.size := by rw [← hSS, Iv_size, NI_length, ls]; exact info_key32
  clear T Q ls bs hk3 hm4 h3 h4 b3 b4 OC FC hSS
  obtain ⟨Kk, hKk⟩ : ∃ k, keyG s = k := ⟨_, rfl⟩
  obtain ⟨Nn, hNn⟩ : ∃ k, nonG s = k := ⟨_, rfl⟩
  obtain ⟨Mm, hMm⟩ : ∃ k, masG s = k := ⟨_, rfl⟩
  have LN := Lib.hid (show (Kk.length = 16 ∧ Nn.length = 12 ∧ Mm.length = 16) ∧ Bytes Kk ∧ Bytes Nn ∧ Bytes Mm by
    rw [← hKk, ← hNn, ← hMm]
    exact ⟨⟨keyG_length s, nonG_length s, masG_length s⟩, keyG_bytes s, nonG_bytes s, masG_bytes s⟩)
  have hks : keysG s = Kk ++ (Nn ++ Mm) := by rw [← hKk, ← hNn, ← hMm]; rfl
  have KZ0 := keysG_size s
  have KO0 := u8s_one (keysG s)
  rw [hks] at OCC KZ0 KO0
  clear hks hKk hNn hMm
  obtain ⟨KC, hKC⟩ : ∃ KC, Iv .u8 (NI (Kk ++ (Nn ++ Mm))) = KC := ⟨_, rfl⟩
  rw [hKC] at OCC KZ0 KO0
  have HK := Lib.hid hKC
  have KZ := Lib.hid KZ0
  have KO := Lib.hid KO0
  clear hKC KZ0 KO0
  go_enter Tryd.func7, Tryd.ntmps7
  go_upto_region 0 with fail
  rename_i aK
  refine wp_region_seq ?_
  refine wpSeq_wp rfl ?_
  unfold Oper.wp execOp
  go_simp
  refine wpSeq_yield (S := fun _ => True) (yieldsIf_assign rfl _ rfl (.bool false) rfl) trivial ?_
  simp only [AP]
  refine wpSeq_nil ?_
  refine aK _ _ ?_
  clear aK
  have K := Blk.new W 23 SS
  have b := (Below.refl W.heap.size W).alloc (Nat.le_refl _) (.cells SS 23)
  have Z1 : (W.alloc (.cells SS 23)).heap.size = W.heap.size + 1 := size_alloc1 _ _
  generalize World.alloc W _ = w1 at *
  go_upto_region 1 with fail
  rename_i aK
  refine wp_region_seq ?_
  refine wpSeq_wp rfl ?_
  unfold Oper.wp execOp
  go_simp
  refine (AW.out w1 b).mono ?_
  rintro _ w2 ⟨rfl, b2⟩
  replace K := K.below' b2
  replace b := b.trans (b2.mono b.size)
  clear b2 AW
  go_simp
  refine wpSeq_yield (S := fun _ => True) (v := .bool false) (Or.inl ⟨by rfl, fun w' hw' => by go_simp⟩) trivial ?_
  simp only [AP]
  refine wpSeq_nil ?_
  refine (by assumption : ∀ (a : Act) (w : World), _ → _) _ _ ?_
  clear Z1
  by_cases q1 : 60 < k3
  · skip
    go_upto_region 3 with fail
    rename_i aK
    refine wp_region_seq ?_
    refine wpSeq_yield (S := fun _ => True) (yieldsIf_move rfl _ rfl (.slice p3 k3 c3) rfl) trivial ?_
    simp only [AP]
    refine wpSeq_yield (S := fun _ => True) (v := .int .i64 (k3 : Int)) (Or.inl ⟨by rfl, fun w' hw' => by go_simp⟩) trivial ?_
    simp only [AP]
    refine wpSeq_yield (S := fun _ => True) (v := .bool true) (Or.inl ⟨by rfl, fun w' hw' => by (go_simp; try omega)⟩) trivial ?_
    simp only [AP]
    refine wpSeq_yield (S := fun _ => True) (yieldsIf_move rfl _ rfl (.bool true) rfl) trivial ?_
    simp only [AP]
    refine wpSeq_yield (S := fun _ => True) (yieldsIf_off rfl) trivial ?_
    simp only [AP]
    refine wpSeq_yield (S := fun _ => True) (yieldsIf_off rfl) trivial ?_
    simp only [AP]
    refine wpSeq_yield (S := fun _ => True) (yieldsIf_off rfl) trivial ?_
    simp only [AP]
    refine wpSeq_yield (S := fun _ => True) (yieldsIf_pick rfl _ _ _ rfl true rfl (.bool true) rfl) trivial ?_
    simp only [AP]
    refine wpSeq_nil ?_
    refine (by assumption : ∀ (a : Act) (w : World), _ → _) _ _ ?_
    go_upto_region 4 with fail
    rename_i aK
    refine wp_region_seq ?_
    refine wpSeq_yield (S := fun _ => True) (yieldsIf_assign rfl _ rfl (.bool true) rfl) trivial ?_
    simp only [AP]
    refine wpSeq_nil ?_
    refine (by assumption : ∀ (a : Act) (w : World), _ → _) _ _ ?_
    go_wp2
    go_ret
    exact ⟨rfl, b⟩
  by_cases q2 : 6 < m4
  · skip
    go_upto_region 3 with fail
    rename_i aK
    refine wp_region_seq ?_
    refine wpSeq_yield (S := fun _ => True) (yieldsIf_move rfl _ rfl (.slice p3 k3 c3) rfl) trivial ?_
    simp only [AP]
    refine wpSeq_yield (S := fun _ => True) (v := .int .i64 (k3 : Int)) (Or.inl ⟨by rfl, fun w' hw' => by go_simp⟩) trivial ?_
    simp only [AP]
    refine wpSeq_yield (S := fun _ => True) (v := .bool false) (Or.inl ⟨by rfl, fun w' hw' => by (go_simp; try omega)⟩) trivial ?_
    simp only [AP]
    refine wpSeq_yield (S := fun _ => True) (yieldsIf_move rfl _ rfl (.bool false) rfl) trivial ?_
    simp only [AP]
    refine wpSeq_yield (S := fun _ => True) (yieldsIf_move rfl _ rfl (.slice p4 m4 c4) rfl) trivial ?_
    simp only [AP]
    refine wpSeq_yield (S := fun _ => True) (v := .int .i64 (m4 : Int)) (Or.inl ⟨by rfl, fun w' hw' => by go_simp⟩) trivial ?_
    simp only [AP]
    refine wpSeq_yield (S := fun _ => True) (v := .bool true) (Or.inl ⟨by rfl, fun w' hw' => by (go_simp; try omega)⟩) trivial ?_
    simp only [AP]
    refine wpSeq_yield (S := fun _ => True) (yieldsIf_pick rfl _ _ _ rfl false rfl (.bool true) rfl) trivial ?_
    simp only [AP]
    refine wpSeq_nil ?_
    refine (by assumption : ∀ (a : Act) (w : World), _ → _) _ _ ?_
    go_upto_region 4 with fail
    rename_i aK
    refine wp_region_seq ?_
    refine wpSeq_yield (S := fun _ => True) (yieldsIf_assign rfl _ rfl (.bool true) rfl) trivial ?_
    simp only [AP]
    refine wpSeq_nil ?_
    refine (by assumption : ∀ (a : Act) (w : World), _ → _) _ _ ?_
    go_wp2
    go_ret
    exact ⟨rfl, b⟩
  go_upto_region 3 with fail
  rename_i aK
  refine wp_region_seq ?_
  refine wpSeq_yield (S := fun _ => True) (yieldsIf_move rfl _ rfl (.slice p3 k3 c3) rfl) trivial ?_
  simp only [AP]
  refine wpSeq_yield (S := fun _ => True) (v := .int .i64 (k3 : Int)) (Or.inl ⟨by rfl, fun w' hw' => by go_simp⟩) trivial ?_
  simp only [AP]
  refine wpSeq_yield (S := fun _ => True) (v := .bool false) (Or.inl ⟨by rfl, fun w' hw' => by (go_simp; try omega)⟩) trivial ?_
  simp only [AP]
  refine wpSeq_yield (S := fun _ => True) (yieldsIf_move rfl _ rfl (.bool false) rfl) trivial ?_
  simp only [AP]
  refine wpSeq_yield (S := fun _ => True) (yieldsIf_move rfl _ rfl (.slice p4 m4 c4) rfl) trivial ?_
  simp only [AP]
  refine wpSeq_yield (S := fun _ => True) (v := .int .i64 (m4 : Int)) (Or.inl ⟨by rfl, fun w' hw' => by go_simp⟩) trivial ?_
  simp only [AP]
  refine wpSeq_yield (S := fun _ => True) (v := .bool false) (Or.inl ⟨by rfl, fun w' hw' => by (go_simp; try omega)⟩) trivial ?_
  simp only [AP]
  refine wpSeq_yield (S := fun _ => True) (yieldsIf_pick rfl _ _ _ rfl false rfl (.bool false) rfl) trivial ?_
  simp only [AP]
  refine wpSeq_nil ?_
  refine (by assumption : ∀ (a : Act) (w : World), _ → _) _ _ ?_
  have HQ := Lib.hid (show k3 ≤ 60 ∧ m4 ≤ 6 by omega)
  clear q1 q2
  go_upto_region 5 with fail
  rename_i aK
  refine wp_region_seq ?_
  refine wpSeq_yield (S := fun w' => w' = w2) (show YieldsIf _ _ _ _ (.agg SS) _ from yieldsIf_row_wanted (S := fun w' => w' = w2) rfl 23 _ rfl W.heap.size rfl 23 _ _ (fun _ h => h ▸ K) Tryd.underlying23 rfl ksz) rfl ?_
  simp only [AP]
  refine wpSeq_wp rfl ?_
  unfold Oper.wp execOp
  go_simp
  refine (OCC.out w2 b).mono ?_
  rintro _ w3 ⟨rfl, b3⟩
  replace b := b.trans (b3.mono b.size)
  clear b3 OCC K
  go_simp
  refine wpSeq_wp rfl ?_
  unfold Oper.wp execOp
  go_simp
  refine wpSeq_store_row rfl 30 _ _ rfl w3.heap.size KC rfl rfl _ _ (Blk.new w3 _ _) (info_keys KC KZ.out) (by rw [KZ.out]; rfl) KO.out ?_
  simp only [Act.put]
  refine wpSeq_nil ?_
  refine (by assumption : ∀ (a : Act) (w : World), _ → _) _ _ ?_
  generalize hw4 : World.setRow _ w3.heap.size _ = w4
  have F4 : Blk w4 w3.heap.size 30 KC ∧ Below w3.heap.size w3 w4 := by
    rw [← hw4]
    exact one_row _ _ _ _
  clear hw4
  obtain ⟨KK, b4⟩ := F4
  replace b := b.trans (b4.mono b.size)
  clear b4
  obtain ⟨gk, hgk⟩ : ∃ g, w3.heap.size = g := ⟨_, rfl⟩
  rw [hgk] at KK ⊢
  clear hgk
  have hmk : (Instr.makeSlice 24 (.int .i64 8) (.int .i64 8)).run Tryd.prog w4 = .ok (.slice (some ⟨w4.heap.size, 0, none⟩) 8 8) (w4.alloc (.cells (Iv .u8 (NI (List.replicate 8 0))) 5)) := run_make8 8 (by decide) w4
  obtain ⟨z8, hz8⟩ : ∃ l : List Nat, List.replicate 8 0 = l := ⟨_, rfl⟩
  have Z8 := Lib.hid (show z8.length = 8 ∧ Bytes z8 by rw [← hz8]; exact ⟨by simp, Bytes.replicate 8 (by decide)⟩)
  rw [hz8] at hmk
  clear hz8
  go_upto_region 6 with fail
  rename_i aK
  refine wp_region_seq ?_
  refine wpSeq_wp rfl ?_
  unfold Oper.wp execOp
  go_simp
  clear hmk
  have KT := Blk.new w4 5 (Iv .u8 (NI z8))
  have b5 := (Below.refl w4.heap.size w4).alloc (Nat.le_refl _) (.cells (Iv .u8 (NI z8)) 5)
  generalize World.alloc w4 _ = w5 at *
  replace KK := KK.below' b5
  replace b := b.trans (b5.mono b.size)
  clear b5
  obtain ⟨gt, hgt⟩ : ∃ g, w4.heap.size = g := ⟨_, rfl⟩
  rw [hgt] at KT ⊢
  clear hgt
  refine wpSeq_yield (S := fun _ => True) (v := .agg #[.int .i64 2, .slice (some ⟨gt, 0, none⟩) 8 8, .slice none 0 0]) (Or.inl ⟨by rfl, fun w' hw' => by go_simp⟩) trivial ?_
  simp only [AP]
  refine wpSeq_wp rfl ?_
  unfold Oper.wp execOp
  go_simp
  refine wpSeq_store_row rfl 42 _ _ rfl w5.heap.size #[.int .i64 2, .slice (some ⟨gt, 0, none⟩) 8 8, .slice none 0 0] rfl rfl _ _ (Blk.new w5 _ _) (by exact info_hd) rfl (cell_one _ _ _ _ _ _ _) ?_
  simp only [Act.put]
  refine wpSeq_nil ?_
  refine (by assumption : ∀ (a : Act) (w : World), _ → _) _ _ ?_
  generalize hw6 : World.setRow _ w5.heap.size _ = w6
  have F6 : Blk w6 w5.heap.size 42 #[.int .i64 2, .slice (some ⟨gt, 0, none⟩) 8 8, .slice none 0 0] ∧ Below w5.heap.size w5 w6 := by
    rw [← hw6]
    exact one_row _ _ _ _
  clear hw6
  obtain ⟨KH, b6⟩ := F6
  replace KK := KK.below' b6
  replace KT := KT.below' b6
  replace b := b.trans (b6.mono b.size)
  clear b6
  obtain ⟨gh, hgh⟩ : ∃ g, w5.heap.size = g := ⟨_, rfl⟩
  rw [hgh] at KH ⊢
  clear hgh
  obtain ⟨x0, hx0⟩ : ∃ x, fi % 2305843009213693952 = x := ⟨_, rfl⟩
  have xl : x0 < 2305843009213693952 := by rw [← hx0]; exact Nat.mod_lt _ (by decide)
  have fr1 : (fi : Int) % 2305843009213693952 = (x0 : Int) := by omega
  have fr2 : (fi : Int).tmod 2305843009213693952 = (x0 : Int) := by rw [← hx0]; rfl
  have fr3 : IntKind.u64.wrap (x0 : Int) = (x0 : Int) := by rw [IntKind.wrap_u64]; omega
  go_upto_region 7 with fail
  rename_i aK
  refine wp_region_seq ?_
  refine wpSeq_yield (S := fun _ => True) (yieldsIf_move rfl _ rfl (.int .u64 (fi : Int)) rfl) trivial ?_
  simp only [AP]
  refine wpSeq_yield (S := fun _ => True) (v := .int .u64 (x0 : Int)) (Or.inl ⟨by rfl, fun w' hw' => by go_simp⟩) trivial ?_
  simp only [AP]
  refine wpSeq_yield (S := fun _ => True) (yieldsIf_assign rfl _ rfl (.int .u64 (x0 : Int)) rfl) trivial ?_
  simp only [AP]
  refine wpSeq_nil ?_
  refine (by assumption : ∀ (a : Act) (w : World), _ → _) _ _ ?_
  clear fr1 fr2 fr3 hx0
  go_upto_region 8 with fail
  rename_i aK
  refine wp_region_seq ?_
  refine wpSeq_yield (S := fun _ => True) (yieldsIf_move rfl _ rfl (.int .u64 (x0 : Int)) rfl) trivial ?_
  simp only [AP]
  refine wpSeq_yield (S := fun _ => True) (yieldsIf_assign rfl _ rfl (.int .u64 (x0 : Int)) rfl) trivial ?_
  simp only [AP]
  refine wpSeq_nil ?_
  refine (by assumption : ∀ (a : Act) (w : World), _ → _) _ _ ?_
  go_upto_region 9 with fail
  rename_i aK
  refine wp_region_seq ?_
  refine wpSeq_yield (S := fun _ => True) (yieldsIf_move rfl _ rfl (.slice p4 m4 c4) rfl) trivial ?_
  simp only [AP]
  refine wpSeq_yield (S := fun _ => True) (v := .int .i64 (m4 : Int)) (Or.inl ⟨by rfl, fun w' hw' => by go_simp⟩) trivial ?_
  simp only [AP]
  refine wpSeq_yield (S := fun _ => True) (yieldsIf_move rfl _ rfl (.int .i64 0) rfl) trivial ?_
  simp only [AP]
  refine wpSeq_nil ?_
  refine (by assumption : ∀ (a : Act) (w : World), _ → _) _ _ ?_
  go_upto_region 10 with fail
  go_loopw [11, 12, 39] (fun v1 v2 v3 wr => ∃ j x : Nat, j ≤ m4 ∧ x < 2305843009213693952 + 300 * j ∧ v1 = .int .u64 (x : Int) ∧ v2 = .int .u64 (x : Int) ∧ v3 = .int .i64 (j : Int) ∧ Blk wr gk 30 KC ∧ Blk wr gt 5 (Iv .u8 (NI z8)) ∧ Blk wr gh 42 #[.int .i64 2, .slice (some ⟨gt, 0, none⟩) 8 8, .slice none 0 0] ∧ Below W.heap.size W wr) (fun _ _ v _ => (m4 - intOf v).toNat)
  case atStart => exact ⟨0, x0, by omega, by omega, rfl, rfl, rfl, KK, KT, KH, b⟩
  case round =>
    clear KK KT KH b xl
    obtain ⟨j, x, jm, xl, rfl, rfl, rfl, KK, KT, KH, b⟩ := hrel
    by_cases jj : j = m4
    · subst jj
      go_upto_region 10 with fail
      rename_i aK
      refine wp_region_seq ?_
      refine wpSeq_yield (S := fun _ => True) (v := .bool false) (Or.inl ⟨by rfl, fun w' hw' => by (go_simp; try omega)⟩) trivial ?_
      simp only [AP]
      refine wpSeq_nil ?_
      refine (by assumption : ∀ (a : Act) (w : World), _ → _) _ _ ?_
      go_upto_region 20 with fail
      rename_i aK
      refine wp_region_seq ?_
      refine wpSeq_yield (S := fun _ => True) (yieldsIf_assign rfl _ rfl (.bool true) rfl) trivial ?_
      simp only [AP]
      refine wpSeq_nil ?_
      refine (by assumption : ∀ (a : Act) (w : World), _ → _) _ _ ?_
      go_wp2
      go_ret
      exact ⟨rfl, b⟩
    · have jl : j < m4 := by omega
      obtain ⟨g4, o4, rfl, A4⟩ : ∃ g o, p4 = some ⟨g, o, none⟩ ∧ BA W g o st := by
        rcases H4.out.at_ with h0 | h0
        · omega
        · exact h0
      obtain ⟨y, hy⟩ : ∃ y, st.getD j 0 = y := ⟨_, rfl⟩
      have y8 : y < 256 := by rw [← hy]; exact getD_bytes B4.out j
      have cy : wr.cell? ⟨g4, o4 + j, none⟩ = some (.int .u8 (y : Int)) := by
        have h := (A4.below b).cell j (by rw [HL4.out]; exact jl)
        rw [h, ← hy]
        congr 2
        rw [List.getD_eq_getElem?_getD, List.getElem?_eq_getElem (by rw [HL4.out]; exact jl)]
        rfl
      obtain ⟨x2, hx2⟩ : ∃ z, x + y = z := ⟨_, rfl⟩
      have fy : IntKind.u64.wrap (y : Int) = (y : Int) := by rw [IntKind.wrap_u64]; omega
      have fx : IntKind.u64.wrap ((x : Int) + (y : Int)) = (x2 : Int) := by have := HQ.out; rw [IntKind.wrap_u64]; omega
      have XX := Lib.hid (show x ≤ x2 ∧ x2 - x < 70000 ∧ x2 < 4611686018427387904 ∧ x2 + 1 < 2305843009213693952 + 300 * (j + 1) ∧ x < 4611686018427387904 by have := HQ.out; omega)
      clear hy hx2 A4 y8 xl
      go_upto_region 10 with fail
      rename_i aK
      refine wp_region_seq ?_
      refine wpSeq_yield (S := fun _ => True) (v := .bool true) (Or.inl ⟨by rfl, fun w' hw' => by (go_simp; try omega)⟩) trivial ?_
      simp only [AP]
      refine wpSeq_nil ?_
      refine (by assumption : ∀ (a : Act) (w : World), _ → _) _ _ ?_
      go_upto_region 11 with fail
      rename_i aK
      refine wp_region_seq ?_
      refine wpSeq_yield (S := fun _ => True) (yieldsIf_move rfl _ rfl (.int .i64 (j : Int)) rfl) trivial ?_
      simp only [AP]
      refine wpSeq_yield (S := fun _ => True) (v := .pointer (some ⟨g4, o4 + j, none⟩)) (Or.inl ⟨by rfl, fun w' hw' => by (go_simp; try omega)⟩) trivial ?_
      simp only [AP]
      refine wpSeq_yield (S := fun w' => w' = wr) (v := .int .u8 (y : Int)) (Or.inl ⟨by rfl, fun w' hw' => by (rw [hw']; go_simp)⟩) rfl ?_
      simp only [AP]
      refine wpSeq_yield (S := fun _ => True) (yieldsIf_assign rfl _ rfl (.int .i64 (j : Int)) rfl) trivial ?_
      simp only [AP]
      refine wpSeq_yield (S := fun _ => True) (yieldsIf_assign rfl _ rfl (.int .u8 (y : Int)) rfl) trivial ?_
      simp only [AP]
      refine wpSeq_nil ?_
      refine (by assumption : ∀ (a : Act) (w : World), _ → _) _ _ ?_
      go_upto_region 12 with fail
      rename_i aK
      refine wp_region_seq ?_
      refine wpSeq_yield (S := fun _ => True) (yieldsIf_move rfl _ rfl (.int .u64 (x : Int)) rfl) trivial ?_
      simp only [AP]
      refine wpSeq_yield (S := fun _ => True) (yieldsIf_move rfl _ rfl (.int .u8 (y : Int)) rfl) trivial ?_
      simp only [AP]
      refine wpSeq_yield (S := fun _ => True) (v := .int .u64 (y : Int)) (Or.inl ⟨by rfl, fun w' hw' => by go_simp⟩) trivial ?_
      simp only [AP]
      refine wpSeq_yield (S := fun _ => True) (v := .int .u64 (x2 : Int)) (Or.inl ⟨by rfl, fun w' hw' => by go_simp⟩) trivial ?_
      simp only [AP]
      refine wpSeq_yield (S := fun _ => True) (yieldsIf_assign rfl _ rfl (.int .u64 (x2 : Int)) rfl) trivial ?_
      simp only [AP]
      refine wpSeq_nil ?_
      refine (by assumption : ∀ (a : Act) (w : World), _ → _) _ _ ?_
      clear fy fx cy
      have ap := XX.out.1
      have SGM := sealG_small LN.out.2.1 LN.out.2.2.1 LN.out.2.2.2 2 Z8.out.2 Bytes.nil x2 x B3.out (by rw [HL3.out]; have := HQ.out; omega)
      have OPN := open_sealG Kk Nn Mm 2 (by decide) z8 z8 Z8.out.1 Z8.out.1 x2 x x bb [] XX.out.2.2.1 (Nat.le_refl _) ap XX.out.2.1 (by rw [HL3.out]; have := HQ.out; omega)
      rw [show ((2 : Nat) : Int) = 2 from rfl, sealG_two Kk Nn Mm z8 z8 [], List.append_nil] at OPN
      have SCC := Lib.hid (fun w h1 h3 => SC Kk Nn Mm 2 z8 [] x2 x bb (.slice (some ⟨gt, 0, none⟩) 8 8) (.slice none 0 0) (.slice p3 k3 c3) LN.out.1.1 LN.out.1.2.1 LN.out.1.2.2 LN.out.2.1 LN.out.2.2.1 LN.out.2.2.2 (by unfold i64_ok; omega) Z8.out.2 Bytes.nil (by rw [Z8.out.1]; decide) (by simp) (by have := XX.out; omega) (by have := XX.out; omega) B3.out (by rw [HL3.out]; have := HQ.out; omega) w h1 (SB.nil w none 0) h3)
      rw [HK.out] at SCC
      obtain ⟨G, hG⟩ : ∃ G, sealG Kk Nn Mm 2 z8 [] x2 x bb = G := ⟨_, rfl⟩
      rw [hG] at SGM OPN SCC
      obtain ⟨code, X⟩ := G
      dsimp only at SGM OPN SCC
      have s0 : code = 0 := OPN.1
      subst s0
      have n4 := shortN_is x2 x
      obtain ⟨n, hn⟩ : ∃ n, shortN x2 x = n := ⟨_, rfl⟩
      rw [hn] at OPN n4
      have OPX := OPN.2
      obtain ⟨lx, hlx⟩ : ∃ k, X.length = k := ⟨_, rfl⟩
      rw [hlx] at OPX
      have PCC := Lib.hid (fun vx w h => PC Kk Nn Mm X 9 (lx : Int) x vx LN.out.1.1 LN.out.1.2.1 LN.out.1.2.2 LN.out.2.1 LN.out.2.2.1 LN.out.2.2.2 SGM.2 (by have := SGM.1; omega) (by unfold i64_ok; omega) (by unfold i64_ok; have := SGM.1; omega) XX.out.2.2.2.2 w h)
      rw [HK.out, show openG Kk Nn Mm X 9 (lx : Int) x = (0, x2, padN n bb) from OPX] at PCC
      dsimp only at PCC
      have HX := Lib.hid hlx
      obtain ⟨z, hz⟩ : ∃ z, (padN n bb).length = z := ⟨_, rfl⟩
      have lz := padN_length n bb
      rw [hz, HL3.out] at lz
      have HZ := Lib.hid hz
      have k3z : k3 ≤ z := by omega
      have PT := Lib.hid (show (padN n bb).take k3 = bb by unfold padN; rw [← HL3.out]; exact List.take_left)
      clear SGM OPN OPX hG n4 hn hlx hz lz ap
      go_upto_region 13 with fail
      rename_i aK
      refine wp_region_seq ?_
      refine wpSeq_yield (S := fun w' => w' = wr) (show YieldsIf _ _ _ _ (.agg KC) _ from yieldsIf_row_wanted (S := fun w' => w' = wr) rfl 30 _ rfl gk rfl 30 _ _ (fun _ h => h ▸ KK) Tryd.underlying30 rfl (info_keys KC KZ.out)) rfl ?_
      simp only [AP]
      refine wpSeq_yield (S := fun w' => w' = wr) (load_hdS (S := fun w' => w' = wr) rfl _ rfl gh rfl 2 _ _ (fun _ h => h ▸ KH)) rfl ?_
      simp only [AP]
      refine wpSeq_yield (S := fun _ => True) (yieldsIf_move rfl _ rfl (.int .u64 (x2 : Int)) rfl) trivial ?_
      simp only [AP]
      refine wpSeq_yield (S := fun _ => True) (yieldsIf_move rfl _ rfl (.int .u64 (x : Int)) rfl) trivial ?_
      simp only [AP]
      refine wpSeq_yield (S := fun _ => True) (yieldsIf_move rfl _ rfl (.slice p3 k3 c3) rfl) trivial ?_
      simp only [AP]
      refine wpSeq_wp rfl ?_
      unfold Oper.wp execOp
      go_simp
      refine (SCC.out wr (SB.of_ba' (BA.of_blk KT) Z8.out.1.symm (by rw [Z8.out.1]; exact Nat.le_refl _)) (H3.out.below b)).mono ?_
      rintro _ w9 ⟨v9, rfl, O9, b9⟩
      replace KK := KK.below' b9
      replace KT := KT.below' b9
      replace KH := KH.below' b9
      replace b := b.trans (b9.mono b.size)
      obtain ⟨p9, c9, hv9⟩ := O9.shape
      subst hv9
      have X9 := O9.sb
      clear b9 SCC O9
      go_simp
      refine wpSeq_yield (S := fun _ => True) (yieldsIf_move rfl _ rfl (.tuple #[.slice p9 X.length c9, .int .i64 ((0 : Nat) : Int)]) rfl) trivial ?_
      simp only [AP]
      refine wpSeq_yield (S := fun _ => True) (v := .slice p9 X.length c9) (Or.inl ⟨by rfl, fun w' hw' => by go_simp⟩) trivial ?_
      simp only [AP]
      refine wpSeq_yield (S := fun _ => True) (v := .int .i64 ((0 : Nat) : Int)) (Or.inl ⟨by rfl, fun w' hw' => by go_simp⟩) trivial ?_
      simp only [AP]
      refine wpSeq_yield (S := fun _ => True) (yieldsIf_assign rfl _ rfl (.slice p9 X.length c9) rfl) trivial ?_
      simp only [AP]
      refine wpSeq_yield (S := fun _ => True) (yieldsIf_assign rfl _ rfl (.int .i64 ((0 : Nat) : Int)) rfl) trivial ?_
      simp only [AP]
      refine wpSeq_nil ?_
      refine (by assumption : ∀ (a : Act) (w : World), _ → _) _ _ ?_
      rw [HX.out] at X9 ⊢
      go_upto_region 14 with fail
      rename_i aK
      refine wp_region_seq ?_
      refine wpSeq_yield (S := fun w' => w' = w9) (show YieldsIf _ _ _ _ (.agg KC) _ from yieldsIf_row_wanted (S := fun w' => w' = w9) rfl 30 _ rfl gk rfl 30 _ _ (fun _ h => h ▸ KK) Tryd.underlying30 rfl (info_keys KC KZ.out)) rfl ?_
      simp only [AP]
      refine wpSeq_yield (S := fun _ => True) (yieldsIf_move rfl _ rfl (.slice p9 lx c9) rfl) trivial ?_
      simp only [AP]
      refine wpSeq_yield (S := fun _ => True) (yieldsIf_move rfl _ rfl (.slice p9 lx c9) rfl) trivial ?_
      simp only [AP]
      refine wpSeq_yield (S := fun _ => True) (v := .int .i64 (lx : Int)) (Or.inl ⟨by rfl, fun w' hw' => by go_simp⟩) trivial ?_
      simp only [AP]
      refine wpSeq_yield (S := fun _ => True) (yieldsIf_move rfl _ rfl (.int .u64 (x : Int)) rfl) trivial ?_
      simp only [AP]
      refine wpSeq_wp rfl ?_
      unfold Oper.wp execOp
      go_simp
      refine (PCC.out _ w9 X9).mono ?_
      rintro _ w14 ⟨v14, rfl, O14, b14⟩
      replace KK := KK.below' b14
      replace KT := KT.below' b14
      replace KH := KH.below' b14
      replace b := b.trans (b14.mono b.size)
      obtain ⟨p14, c14, hv14⟩ := O14.shape
      subst hv14
      have X14 := O14.sb
      clear b14 PCC O14 X9
      go_simp
      refine wpSeq_yield (S := fun _ => True) (yieldsIf_move rfl _ rfl (.tuple #[.int .u64 (x2 : Int), .slice p14 (padN n bb).length c14, .int .i64 ((0 : Nat) : Int)]) rfl) trivial ?_
      simp only [AP]
      refine wpSeq_yield (S := fun _ => True) (v := .int .u64 (x2 : Int)) (Or.inl ⟨by rfl, fun w' hw' => by go_simp⟩) trivial ?_
      simp only [AP]
      refine wpSeq_yield (S := fun _ => True) (v := .slice p14 (padN n bb).length c14) (Or.inl ⟨by rfl, fun w' hw' => by go_simp⟩) trivial ?_
      simp only [AP]
      refine wpSeq_yield (S := fun _ => True) (v := .int .i64 ((0 : Nat) : Int)) (Or.inl ⟨by rfl, fun w' hw' => by go_simp⟩) trivial ?_
      simp only [AP]
      refine wpSeq_yield (S := fun _ => True) (yieldsIf_assign rfl _ rfl (.int .u64 (x2 : Int)) rfl) trivial ?_
      simp only [AP]
      refine wpSeq_yield (S := fun _ => True) (yieldsIf_assign rfl _ rfl (.slice p14 (padN n bb).length c14) rfl) trivial ?_
      simp only [AP]
      refine wpSeq_yield (S := fun _ => True) (yieldsIf_assign rfl _ rfl (.int .i64 ((0 : Nat) : Int)) rfl) trivial ?_
      simp only [AP]
      refine wpSeq_nil ?_
      refine (by assumption : ∀ (a : Act) (w : World), _ → _) _ _ ?_
      rw [HZ.out] at X14 ⊢
      have bd := below_drew (Below.refl w14.heap.size w14)
      replace KK := KK.below' bd
      replace KT := KT.below' bd
      replace KH := KH.below' bd
      replace X14 := X14.below bd
      replace b := b.trans (bd.mono b.size)
      clear bd
      have lc14 := X14.len.2
      rw [HZ.out] at lc14
      have XH := X14.head k3 k3z
      rw [PT.out] at XH
      have H3b := H3.out.below b
      have j10 : j ≤ 10 := by have := HQ.out; omega
      go_upto_region 15 with fail
      rename_i aK
      refine wp_region_S (S := fun w' => Below w14.drew.heap.size w14.drew w') (by kernel_rfl) ?_
      generalize w14.drew = w15 at *
      have hS := Below.refl w15.heap.size w15
      refine wpAnyS_takeL 0 (v := .int .i64 ((0 : Nat) : Int)) rfl (by kernel_rfl) (by kernel_rfl) (by kernel_rfl) (fun _ _ _ H => H) (yieldsIf_move rfl _ rfl (.int .i64 ((0 : Nat) : Int)) rfl) hS ?_
      simp only [AP]
      refine wpAnyS_takeL 1 (v := .bool false) rfl (by kernel_rfl) (by kernel_rfl) (by kernel_rfl) (fun _ _ _ H => H) (Or.inl ⟨by rfl, fun w' hw' => by (go_simp; try omega)⟩) hS ?_
      simp only [AP]
      refine wpAnyS_takeL 2 (v := .bool false) rfl (by kernel_rfl) (by kernel_rfl) (by kernel_rfl) (fun _ _ _ H => H) (yieldsIf_move rfl _ rfl (.bool false) rfl) hS ?_
      simp only [AP]
      refine wpAnyS_takeL 3 (v := .int .i64 ((0 : Nat) : Int)) rfl (by kernel_rfl) (by kernel_rfl) (by kernel_rfl) (fun _ _ _ H => H) (yieldsIf_move rfl _ rfl (.int .i64 ((0 : Nat) : Int)) rfl) hS ?_
      simp only [AP]
      refine wpAnyS_takeL 4 (v := .bool false) rfl (by kernel_rfl) (by kernel_rfl) (by kernel_rfl) (fun _ _ _ H => H) (Or.inl ⟨by rfl, fun w' hw' => by (go_simp; try omega)⟩) hS ?_
      simp only [AP]
      refine wpAnyS_takeL 5 (v := .bool false) rfl (by kernel_rfl) (by kernel_rfl) (by kernel_rfl) (fun _ _ _ H => H) (yieldsIf_pick rfl _ _ _ rfl false rfl (.bool false) rfl) hS ?_
      simp only [AP]
      refine wpAnyS_takeL 6 (v := .bool false) rfl (by kernel_rfl) (by kernel_rfl) (by kernel_rfl) (fun _ _ _ H => H) (yieldsIf_move rfl _ rfl (.bool false) rfl) hS ?_
      simp only [AP]
      refine wpAnyS_takeL 7 (v := .int .u64 (x2 : Int)) rfl (by kernel_rfl) (by kernel_rfl) (by kernel_rfl) (fun _ _ _ H => H) (yieldsIf_move rfl _ rfl (.int .u64 (x2 : Int)) rfl) hS ?_
      simp only [AP]
      refine wpAnyS_takeL 8 (v := .int .u64 (x2 : Int)) rfl (by kernel_rfl) (by kernel_rfl) (by kernel_rfl) (fun _ _ _ H => H) (yieldsIf_move rfl _ rfl (.int .u64 (x2 : Int)) rfl) hS ?_
      simp only [AP]
      refine wpAnyS_takeL 9 (v := .bool false) rfl (by kernel_rfl) (by kernel_rfl) (by kernel_rfl) (fun _ _ _ H => H) (Or.inl ⟨by rfl, fun w' hw' => by (go_simp; try omega)⟩) hS ?_
      simp only [AP]
      refine wpAnyS_takeL 10 (v := .bool false) rfl (by kernel_rfl) (by kernel_rfl) (by kernel_rfl) (fun _ _ _ H => H) (yieldsIf_pick rfl _ _ _ rfl false rfl (.bool false) rfl) hS ?_
      simp only [AP]
      refine wpAnyS_takeL 11 (v := .bool false) rfl (by kernel_rfl) (by kernel_rfl) (by kernel_rfl) (fun _ _ _ H => H) (yieldsIf_move rfl _ rfl (.bool false) rfl) hS ?_
      simp only [AP]
      refine wpAnyS_takeL 12 (v := .slice p14 z c14) rfl (by kernel_rfl) (by kernel_rfl) (by kernel_rfl) (fun _ _ _ H => H) (yieldsIf_move rfl _ rfl (.slice p14 z c14) rfl) hS ?_
      simp only [AP]
      refine wpAnyS_takeL 13 (v := .int .i64 (z : Int)) rfl (by kernel_rfl) (by kernel_rfl) (by kernel_rfl) (fun _ _ _ H => H) (Or.inl ⟨by rfl, fun w' hw' => by go_simp⟩) hS ?_
      simp only [AP]
      refine wpAnyS_takeL 14 (v := .slice p3 k3 c3) rfl (by kernel_rfl) (by kernel_rfl) (by kernel_rfl) (fun _ _ _ H => H) (yieldsIf_move rfl _ rfl (.slice p3 k3 c3) rfl) hS ?_
      simp only [AP]
      refine wpAnyS_takeL 15 (v := .int .i64 (k3 : Int)) rfl (by kernel_rfl) (by kernel_rfl) (by kernel_rfl) (fun _ _ _ H => H) (Or.inl ⟨by rfl, fun w' hw' => by go_simp⟩) hS ?_
      simp only [AP]
      refine wpAnyS_takeL 16 (v := .bool false) rfl (by kernel_rfl) (by kernel_rfl) (by kernel_rfl) (fun _ _ _ H => H) (Or.inl ⟨by rfl, fun w' hw' => by (go_simp; try omega)⟩) hS ?_
      simp only [AP]
      refine wpAnyS_takeL 17 (v := .bool false) rfl (by kernel_rfl) (by kernel_rfl) (by kernel_rfl) (fun _ _ _ H => H) (yieldsIf_pick rfl _ _ _ rfl false rfl (.bool false) rfl) hS ?_
      simp only [AP]
      refine wpAnyS_takeL 18 (v := .bool false) rfl (by kernel_rfl) (by kernel_rfl) (by kernel_rfl) (fun _ _ _ H => H) (yieldsIf_move rfl _ rfl (.bool false) rfl) hS ?_
      simp only [AP]
      refine wpAnyS_takeL 19 (v := .slice p14 z c14) rfl (by kernel_rfl) (by kernel_rfl) (by kernel_rfl) (fun _ _ _ H => H) (yieldsIf_move rfl _ rfl (.slice p14 z c14) rfl) hS ?_
      simp only [AP]
      refine wpAnyS_takeL 20 (v := .slice p3 k3 c3) rfl (by kernel_rfl) (by kernel_rfl) (by kernel_rfl) (fun _ _ _ H => H) (yieldsIf_move rfl _ rfl (.slice p3 k3 c3) rfl) hS ?_
      simp only [AP]
      refine wpAnyS_takeL 21 (v := .int .i64 (k3 : Int)) rfl (by kernel_rfl) (by kernel_rfl) (by kernel_rfl) (fun _ _ _ H => H) (Or.inl ⟨by rfl, fun w' hw' => by go_simp⟩) hS ?_
      simp only [AP]
      refine wpAnyS_takeL 22 (v := .slice p14 k3 c14) rfl (by kernel_rfl) (by kernel_rfl) (by kernel_rfl) (fun _ _ _ H => H) (yieldsIf_head rfl _ _ rfl p14 z c14 k3 rfl rfl (by omega)) hS ?_
      simp only [AP]
      refine wpAnyS_takeL 23 (v := .string (strB (bb))) rfl (by kernel_rfl) (by kernel_rfl) (by kernel_rfl) (fun _ _ _ H => H) (yieldsIf_conv (S := fun w' => Below w15.heap.size w15 w') rfl _ rfl (.slice p14 k3 c14) rfl (bb) (fun w' h => (XH).below h)) hS ?_
      simp only [AP]
      refine wpAnyS_takeL 24 (v := .slice p3 k3 c3) rfl (by kernel_rfl) (by kernel_rfl) (by kernel_rfl) (fun _ _ _ H => H) (yieldsIf_move rfl _ rfl (.slice p3 k3 c3) rfl) hS ?_
      simp only [AP]
      refine wpAnyS_takeL 25 (v := .string (strB (bb))) rfl (by kernel_rfl) (by kernel_rfl) (by kernel_rfl) (fun _ _ _ H => H) (yieldsIf_conv (S := fun w' => Below w15.heap.size w15 w') rfl _ rfl (.slice p3 k3 c3) rfl (bb) (fun w' h => (H3b).below h)) hS ?_
      simp only [AP]
      refine wpAnyS_takeL 26 (v := .bool false) rfl (by kernel_rfl) (by kernel_rfl) (by kernel_rfl) (fun _ _ _ H => H) (yieldsIf_strNe rfl _ _ rfl _ _ rfl rfl rfl) hS ?_
      simp only [AP]
      refine wpAnyS_takeL 27 (v := .bool false) rfl (by kernel_rfl) (by kernel_rfl) (by kernel_rfl) (fun _ _ _ H => H) (yieldsIf_pick rfl _ _ _ rfl false rfl (.bool false) rfl) hS ?_
      simp only [AP]
      refine wpAnyS_takeL 28 (v := .bool false) rfl (by kernel_rfl) (by kernel_rfl) (by kernel_rfl) (fun _ _ _ H => H) (yieldsIf_move rfl _ rfl (.bool false) rfl) hS ?_
      simp only [AP]
      refine wpAnyS_takeL 29 (v := .int .i64 (j : Int)) rfl (by kernel_rfl) (by kernel_rfl) (by kernel_rfl) (fun _ _ _ H => H) (yieldsIf_move rfl _ rfl (.int .i64 (j : Int)) rfl) hS ?_
      simp only [AP]
      refine wpAnyS_takeL 30 (v := .bool false) rfl (by kernel_rfl) (by kernel_rfl) (by kernel_rfl) (fun _ _ _ H => H) (Or.inl ⟨by rfl, fun w' hw' => by (go_simp; try omega)⟩) hS ?_
      simp only [AP]
      refine wpAnyS_takeL 31 (v := .bool false) rfl (by kernel_rfl) (by kernel_rfl) (by kernel_rfl) (fun _ _ _ H => H) (yieldsIf_pick rfl _ _ _ rfl false rfl (.bool false) rfl) hS ?_
      simp only [AP]
      refine wpAnyS_done (by kernel_rfl) ?_ _
      refine (by assumption : ∀ (a : Act) (w : World), _ → _) _ _ ?_
      clear aK hS XH H3b X14 lc14 k3z
      have f100 : IntKind.u64.wrap ((x2 : Int) + 1) = (x2 : Int) + 1 := by rw [IntKind.wrap_u64]; have := XX.out; omega
      go_upto_region 17 with fail
      rename_i aK
      refine wp_region_seq ?_
      refine wpSeq_yield (S := fun _ => True) (yieldsIf_move rfl _ rfl (.int .u64 (x2 : Int)) rfl) trivial ?_
      simp only [AP]
      refine wpSeq_yield (S := fun _ => True) (v := .int .u64 ((x2 : Int) + 1)) (Or.inl ⟨by rfl, fun w' hw' => by go_simp⟩) trivial ?_
      simp only [AP]
      refine wpSeq_yield (S := fun _ => True) (yieldsIf_assign rfl _ rfl (.int .u64 ((x2 : Int) + 1)) rfl) trivial ?_
      simp only [AP]
      refine wpSeq_nil ?_
      refine (by assumption : ∀ (a : Act) (w : World), _ → _) _ _ ?_
      go_upto_region 18 with fail
      rename_i aK
      refine wp_region_seq ?_
      refine wpSeq_yield (S := fun _ => True) (yieldsIf_move rfl _ rfl (.int .u64 ((x2 : Int) + 1)) rfl) trivial ?_
      simp only [AP]
      refine wpSeq_yield (S := fun _ => True) (yieldsIf_assign rfl _ rfl (.int .u64 ((x2 : Int) + 1)) rfl) trivial ?_
      simp only [AP]
      refine wpSeq_nil ?_
      refine (by assumption : ∀ (a : Act) (w : World), _ → _) _ _ ?_
      have f102 : IntKind.i64.wrap ((j : Int) + 1) = ((j + 1 : Nat) : Int) := by rw [IntKind.wrap_i64]; omega
      go_upto_region 19 with fail
      rename_i aK
      refine wp_region_seq ?_
      refine wpSeq_yield (S := fun _ => True) (v := .int .i64 ((j + 1 : Nat) : Int)) (Or.inl ⟨by rfl, fun w' hw' => by go_simp⟩) trivial ?_
      simp only [AP]
      refine wpSeq_yield (S := fun _ => True) (yieldsIf_move rfl _ rfl (.int .i64 ((j + 1 : Nat) : Int)) rfl) trivial ?_
      simp only [AP]
      refine wpSeq_nil ?_
      clear f100
      go_wp2
      exact ⟨⟨j + 1, x2 + 1, by omega, XX.out.2.2.2.1, rfl, rfl, rfl, KK, KT, KH, b⟩, by simp only [intOf]; omega⟩
end Go.Proofs.YtpihgljdbpnehaaDoor
