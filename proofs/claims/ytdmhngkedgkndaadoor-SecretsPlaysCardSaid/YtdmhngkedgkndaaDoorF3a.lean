/- The program's put, Add, Again (printed by gen15/fc.py). -/
import Derived.Test.YtdmhngkedgkndaaDoorF2a
namespace Go.Proofs.YtdmhngkedgkndaaDoor
open Go.RowKit
section
variable {P : Program} {md : Region.Mode} {ops : Array Oper} {Q : Exit → Act → World → Prop} {S : World → Prop}
/-- The one operation that is ready is run. -/
theorem hzstep {z fuel : Nat} {listed : Array Bool} {a : Act} {w : World} (i : Nat) {oi : Oper} (hi : ops.toList[i]? = some oi) (hr : Region.ready md ops listed = [i]) (hgd : oi.guard = none)
    (h : oi.wp P a w (fun a' w' => ((listed.setIfInBounds i true).getD z true = false → S w') ∧ wpAnyZ P md ops Q S z fuel (listed.setIfInBounds i true) a' w') Q) : wpAnyZ P md ops Q S z (fuel + 1) listed a w := by
  refine wpAnyZ_one hr ?_
  unfold wpOp
  rw [← Array.getElem?_toList, hi]
  have hw : Region.wanted oi (yielded ops a.tmps) = true := by simp [Region.wanted, hgd]
  simp only [hw, if_true]
  left
  exact h
/-- One of the two that are ready, whichever. -/
theorem hzsteps {z fuel : Nat} {listed : Array Bool} {a : Act} {w : World} (i j : Nat) {oi oj : Oper} (hi : ops.toList[i]? = some oi) (hj : ops.toList[j]? = some oj) (hr : Region.ready md ops listed = [i, j]) (gi : oi.guard = none) (gj : oj.guard = none)
    (h1 : oi.wp P a w (fun a' w' => ((listed.setIfInBounds i true).getD z true = false → S w') ∧ wpAnyZ P md ops Q S z fuel (listed.setIfInBounds i true) a' w') Q)
    (h2 : oj.wp P a w (fun a' w' => ((listed.setIfInBounds j true).getD z true = false → S w') ∧ wpAnyZ P md ops Q S z fuel (listed.setIfInBounds j true) a' w') Q) : wpAnyZ P md ops Q S z (fuel + 1) listed a w := by
  refine wpAnyZ_two hr ?_ ?_
  · unfold wpOp
    rw [← Array.getElem?_toList, hi]
    have hw : Region.wanted oi (yielded ops a.tmps) = true := by simp [Region.wanted, gi]
    simp only [hw, if_true]
    left
    exact h1
  · unfold wpOp
    rw [← Array.getElem?_toList, hj]
    have hw : Region.wanted oj (yielded ops a.tmps) = true := by simp [Region.wanted, gj]
    simp only [hw, if_true]
    left
    exact h2
end
set_option maxHeartbeats 8000000 in
set_option maxRecDepth 100000 in
theorem put_c (B g : Nat) (v : Value) (m s : List Nat) (ls : List (List Nat)) (p : Option Addr) (n c : Nat) (W : World) (h : SS B W g v m s) (hB : B ≤ W.heap.size) (hs : SP W (.slice p n c) ls) (hb : ∀ l ∈ ls, Bytes l) (hm : m.length ≤ 100000) (hl : ls.flatten.length ≤ 100000) (hn : ls.length ≤ 1000) :
    Calls Tryd.prog 26 #[.pointer (some ⟨g, 0, none⟩), .slice p n c] W fun e w' => (∃ u, e = .returned u) ∧ ∃ v', SS B w' g v' (m ++ ls.flatten) s ∧ Mine g v.ownBlock W w' ∧ ∀ k, v'.ownBlock = some k → v.ownBlock = some k ∨ W.heap.size ≤ k := by
  have bd := below_drew (Below.refl W.heap.size W)
  have H0 := h.below bd
  have JC := Lib.hid (join_c ls p n c W.drew (hs.below bd) hl hn)
  have bf := Bytes.flatten hb
  generalize ls.flatten = f at *
  have gl := h.blk.lt
  have FF := Lib.hid (And.intro bf (And.intro hm (And.intro hl (And.intro hB gl))))
  obtain ⟨pv, cv, rfl⟩ := h.row.shape
  obtain ⟨mm, hmm⟩ : ∃ k, m.length = k := ⟨_, rfl⟩
  rw [hmm] at H0 ⊢
  have c0 := H0.cell
  replace H0 := Lib.hid H0
  replace hmm := Lib.hid hmm
  clear h hs hb hl hn bf hm hB
  go_enter Tryd.func26, Tryd.ntmps26
  go_upto_region 0 with fail
  refine wp_region_Z (S := fun w' => w'.cell? ⟨g, 0, none⟩ = some (.slice pv mm cv)) 10 (by kernel_rfl) ?_
  have hS : W.drew.cell? ⟨g, 0, none⟩ = some (.slice pv mm cv) := c0
  clear c0
  have W0 : W.drew.heap = W.heap := rfl
  refine wpAnyZ_takeL 0 (v := .pointer (some ⟨g, 0, none⟩)) rfl (by kernel_rfl) (by kernel_rfl) (by kernel_rfl) (by kernel_rfl) (by kernel_rfl) (fun _ _ _ H => H) (yieldsIf_move rfl _ rfl (.pointer (some ⟨g, 0, none⟩)) rfl) hS ?_
  simp only [AP]
  refine wpAnyZ_takeL 1 (v := .pointer (some ⟨g, 0, none⟩)) rfl (by kernel_rfl) (by kernel_rfl) (by kernel_rfl) (by kernel_rfl) (by kernel_rfl) (fun _ _ _ H => H) (yieldsIf_move rfl _ rfl (.pointer (some ⟨g, 0, none⟩)) rfl) hS ?_
  simp only [AP]
  refine wpAnyZ_takeL 2 (v := .pointer (some ⟨g, 0, none⟩)) rfl (by kernel_rfl) (by kernel_rfl) (by kernel_rfl) (by kernel_rfl) (by kernel_rfl) (fun _ _ _ H => H) (Or.inl ⟨by rfl, fun w' hw' => by go_simp⟩) hS ?_
  simp only [AP]
  refine wpAnyZ_takeL 3 (v := .pointer (some ⟨g, 0, none⟩)) rfl (by kernel_rfl) (by kernel_rfl) (by kernel_rfl) (by kernel_rfl) (by kernel_rfl) (fun _ _ _ H => H) (Or.inl ⟨by rfl, fun w' hw' => by go_simp⟩) hS ?_
  simp only [AP]
  refine wpAnyZ_takeL 4 (v := .slice pv mm cv) rfl (by kernel_rfl) (by kernel_rfl) (by kernel_rfl) (by kernel_rfl) (by kernel_rfl) (fun _ _ _ H => H) (Or.inl ⟨by rfl, fun w' hw' => by (go_simp)⟩) hS ?_
  simp only [AP]
  refine wpAnyZ_takeL 5 (v := .slice p n c) rfl (by kernel_rfl) (by kernel_rfl) (by kernel_rfl) (by kernel_rfl) (by kernel_rfl) (fun _ _ _ H => H) (yieldsIf_move rfl _ rfl (.slice p n c) rfl) hS ?_
  simp only [AP]
  refine hzstep 6 rfl (by kernel_rfl) rfl ?_
  unfold Oper.wp execOp
  go_simp
  refine JC.out.mono ?_
  rintro _ w2 ⟨x, rfl, hx, b2⟩
  have H2 := H0.out.below b2
  have c2 := H2.cell
  refine ⟨c2, ?_⟩
  obtain ⟨v', w', h1, h2, h3, h4⟩ := append_sb B w2 22 _ x m f H2.row hx (by have := FF.out; omega) (Nat.le_trans FF.out.2.2.2.1 b2.size)
  obtain ⟨px, cx, rfl⟩ := hx.shape
  have gl2 := H2.blk.lt
  have c3 : w'.cell? ⟨g, 0, none⟩ = some (.slice pv mm cv) := (cell_congr (h3.block g gl2 (fun e => H2.ne e.symm))).trans c2
  have K3 : Blk w' g 49 (rowS (.slice pv mm cv) s) := (h3.block g gl2 (fun e => H2.ne e.symm)).trans H2.blk
  have f3 := Blk.frozen K3 0
  have M3 : Mine g (Value.slice pv mm cv).ownBlock W w' := (Mine.of ((below_drew (Below.refl W.heap.size W)).trans b2)).trans (Mine.of_o h3)
  obtain ⟨pw, cw, rfl⟩ := h2.shape
  have hl2 := h2.lt
  have hne : (Value.slice pw (m ++ f).length cw).ownBlock ≠ some g := by
    rcases h4 with e | e
    · rw [e]; exact H2.ne
    · rw [e]; intro e2; have := Option.some.inj e2; omega
  have hk4 : ∀ k, (Value.slice pw (m ++ f).length cw).ownBlock = some k → (Value.slice pv mm cv).ownBlock = some k ∨ W.heap.size ≤ k := by
    intro k hk
    rcases h4 with e | e
    · exact Or.inl (e ▸ hk)
    · have hs2 : W.heap.size ≤ w2.heap.size := b2.size
      exact Or.inr (by have := Option.some.inj (e.symm.trans hk); omega)
  obtain ⟨mf, hmf⟩ : ∃ k, (m ++ f).length = k := ⟨_, rfl⟩
  rw [hmf] at h1 h2 hne hk4
  have RES := Lib.hid (And.intro h2 (And.intro hne (And.intro hk4 (And.intro M3 K3))))
  replace h1 := Lib.hid h1
  clear c2 h2 hne hk4 M3 K3 hl2 h3 h4 hmf gl2 b2 hx W0 hS JC
  refine hzstep 7 rfl (by kernel_rfl) rfl (wp_append_run _ _ _ _ rfl _ _ rfl rfl _ w' h1.out ⟨fun _ => c3, ?_⟩)
  simp only [AP]
  have hS := c3
  refine hzstep 8 rfl (by kernel_rfl) rfl ?_
  unfold Oper.wp execOp
  go_simp
  refine hzstep 9 rfl (by kernel_rfl) rfl ?_
  unfold Oper.wp execOp
  go_simp
  refine hzstep 10 rfl (by kernel_rfl) rfl ?_
  unfold Oper.wp execOp
  go_simp
  clear hS
  have A := RES.out
  have KS := Blk.set A.2.2.2.2 0 (.slice pw mf cw)
  rw [rowS_set] at KS
  have GS : w'.grownBy (w'.setCell ⟨g, 0, none⟩ (.slice pw mf cw)) (some g) := ⟨rfl, rfl, rfl, by simp, fun k _ hk => Below.heap_setCell w' _ _ k (fun e => hk (by rw [e]))⟩
  have OS : OwL B (w'.setCell ⟨g, 0, none⟩ (.slice pw mf cw)) (.slice pw mf cw) (m ++ f) := A.1.of_block fun k hk => GS.block k (A.1.lt k hk).2 (fun e => A.2.1 (by rw [hk, e]))
  have MS := A.2.2.2.1.trans (Mine.of_g GS)
  have bmf : Bytes (m ++ f) := H0.out.bm.append FF.out.1
  have R := Lib.hid (show _ ∧ _ ∧ _ from And.intro (⟨KS, H0.out.hg, OS, A.2.1, bmf, H0.out.bs, H0.out.ls⟩ : SS B _ g (.slice pw mf cw) (m ++ f) s) (And.intro MS A.2.2.1))
  clear KS GS OS MS bmf A RES
  generalize World.setCell w' _ _ = w5 at *
  refine wpAnyZ_done (by kernel_rfl) ?_ _
  refine bodyPost_end (results_none rfl _ _ _) rfl ?_
  exact ⟨⟨_, rfl⟩, _, R.out⟩
set_option maxHeartbeats 8000000 in
set_option maxRecDepth 100000 in
theorem add_c (B g : Nat) (v : Value) (m s : List Nat) (ls : List (List Nat)) (p : Option Addr) (n c : Nat) (W : World) (h : SS B W g v m s) (hB : B ≤ W.heap.size) (hs : SP W (.slice p n c) ls) (hb : ∀ l ∈ ls, Bytes l) (hm : m.length ≤ 100000) (hl : ls.flatten.length ≤ 100000) (hn : ls.length ≤ 1000) :
    Calls Tryd.prog 15 #[.pointer (some ⟨g, 0, none⟩), .slice p n c] W fun e w' => (∃ u, e = .returned u) ∧ ∃ v', SS B w' g v' (m ++ ls.flatten) s ∧ Mine g v.ownBlock W w' ∧ ∀ k, v'.ownBlock = some k → v.ownBlock = some k ∨ W.heap.size ≤ k := by
  have PC := Lib.hid (put_c B g v m s ls p n c W h hB hs hb hm hl hn)
  clear h hB hs hb hm hl hn
  go_enter Tryd.func15, Tryd.ntmps15
  go_upto_region 0 with fail
  rename_i aK
  refine wp_region_seq ?_
  refine wpSeq_yield (S := fun _ => True) (yieldsIf_move rfl _ rfl (.pointer (some ⟨g, 0, none⟩)) rfl) trivial ?_
  simp only [AP]
  refine wpSeq_yield (S := fun _ => True) (v := .bool true) (Or.inl ⟨by rfl, fun w' hw' => by (go_simp; try omega)⟩) trivial ?_
  simp only [AP]
  refine wpSeq_nil ?_
  refine (by assumption : ∀ (a : Act) (w : World), _ → _) _ _ ?_
  go_upto_region 1 with fail
  rename_i aK
  refine wp_region_seq ?_
  refine wpSeq_yield (S := fun _ => True) (yieldsIf_move rfl _ rfl (.pointer (some ⟨g, 0, none⟩)) rfl) trivial ?_
  simp only [AP]
  refine wpSeq_yield (S := fun _ => True) (v := .pointer (some ⟨g, 0, none⟩)) (Or.inl ⟨by rfl, fun w' hw' => by go_simp⟩) trivial ?_
  simp only [AP]
  refine wpSeq_yield (S := fun _ => True) (v := .pointer (some ⟨g, 0, none⟩)) (Or.inl ⟨by rfl, fun w' hw' => by go_simp⟩) trivial ?_
  simp only [AP]
  refine wpSeq_yield (S := fun _ => True) (yieldsIf_move rfl _ rfl (.slice p n c) rfl) trivial ?_
  simp only [AP]
  refine wpSeq_wp rfl ?_
  unfold Oper.wp execOp
  go_simp
  refine PC.out.mono ?_
  rintro _ w2 ⟨⟨u, rfl⟩, R⟩
  replace R := Lib.hid R
  clear PC
  go_simp
  refine wpSeq_nil ?_
  refine bodyPost_end (results_none rfl _ _ _) rfl ?_
  exact ⟨⟨_, rfl⟩, R.out⟩
set_option maxHeartbeats 8000000 in
set_option maxRecDepth 100000 in
theorem add_nil (p : Option Addr) (n c : Nat) (W : World) :
    Calls Tryd.prog 15 #[.pointer none, .slice p n c] W fun e w' => (∃ u, e = .returned u) ∧ w' = W := by
  go_enter Tryd.func15, Tryd.ntmps15
  go_wp2
  refine bodyPost_end (results_none rfl _ _ _) rfl ?_
  exact ⟨⟨_, rfl⟩, rfl⟩
set_option maxHeartbeats 8000000 in
set_option maxRecDepth 100000 in
theorem again_nil (psk : List Nat) (p : Option Addr) (n c : Nat) (W : World) (T : Tab W cuT) (S : Sq W sqT) (hp : SB W (.slice p n c) psk) (bp : Bytes psk) (hl : psk.length ≤ 100000) :
    Calls Tryd.prog 14 #[.pointer none, .slice p n c] W fun e w' => ∃ g, e = .returned (.pointer (some ⟨g, 0, none⟩)) ∧ ∃ v', SS W.heap.size w' g v' [] (beginL psk) ∧ Below W.heap.size W w' := by
  have NC := Lib.hid (new_c psk p n c W T S hp bp hl)
  clear T S hp bp hl
  go_enter Tryd.func14, Tryd.ntmps14
  go_upto_region 0 with fail
  rename_i aK
  refine wp_region_seq ?_
  refine wpSeq_yield (S := fun _ => True) (yieldsIf_assign rfl _ rfl (.pointer none) rfl) trivial ?_
  simp only [AP]
  refine wpSeq_nil ?_
  refine (by assumption : ∀ (a : Act) (w : World), _ → _) _ _ ?_
  go_upto_region 1 with fail
  rename_i aK
  refine wp_region_seq ?_
  refine wpSeq_yield (S := fun _ => True) (yieldsIf_move rfl _ rfl (.slice p n c) rfl) trivial ?_
  simp only [AP]
  refine wpSeq_wp rfl ?_
  unfold Oper.wp execOp
  go_simp
  refine NC.out.mono ?_
  rintro _ w2 ⟨g2, rfl, R2, b2⟩
  clear NC
  go_simp
  replace R2 := Lib.hid R2
  refine wpSeq_yield (S := fun _ => True) (yieldsIf_assign rfl _ rfl (.pointer (some ⟨g2, 0, none⟩)) rfl) trivial ?_
  simp only [AP]
  refine wpSeq_nil ?_
  refine (by assumption : ∀ (a : Act) (w : World), _ → _) _ _ ?_
  go_wp2
  go_ret
  exact ⟨_, rfl, _, R2.out, b2⟩
set_option maxHeartbeats 8000000 in
set_option maxRecDepth 100000 in
theorem again_c (B g : Nat) (v : Value) (m s : List Nat) (psk : List Nat) (p : Option Addr) (n c : Nat) (W : World) (h : SS B W g v m s) (hm : m.length ≤ 100000) (T : Tab W cuT) (S : Sq W sqT) (hp : SB W (.slice p n c) psk) (bp : Bytes psk) (hl : psk.length ≤ 100000) :
    Calls Tryd.prog 14 #[.pointer (some ⟨g, 0, none⟩), .slice p n c] W fun e w' => ∃ g', e = .returned (.pointer (some ⟨g', 0, none⟩)) ∧ ∃ v', SS W.heap.size w' g' v' m (beginL psk) ∧ Below W.heap.size W w' := by
  have NC := Lib.hid (new_c psk p n c W T S hp bp hl)
  generalize beginL psk = bl at *
  obtain ⟨pv, cv, rfl⟩ := h.row.shape
  obtain ⟨mm, hmm⟩ : ∃ k, m.length = k := ⟨_, rfl⟩
  rw [hmm] at h hm
  replace hmm := Lib.hid hmm
  have hm := Lib.hid hm
  have H := Lib.hid h
  clear T S hp bp hl h
  go_enter Tryd.func14, Tryd.ntmps14
  go_upto_region 0 with fail
  rename_i aK
  refine wp_region_seq ?_
  refine wpSeq_yield (S := fun _ => True) (yieldsIf_assign rfl _ rfl (.pointer none) rfl) trivial ?_
  simp only [AP]
  refine wpSeq_nil ?_
  refine (by assumption : ∀ (a : Act) (w : World), _ → _) _ _ ?_
  go_upto_region 1 with fail
  rename_i aK
  refine wp_region_seq ?_
  refine wpSeq_yield (S := fun _ => True) (yieldsIf_move rfl _ rfl (.slice p n c) rfl) trivial ?_
  simp only [AP]
  refine wpSeq_wp rfl ?_
  unfold Oper.wp execOp
  go_simp
  refine NC.out.mono ?_
  rintro _ w2 ⟨g2, rfl, R2, b2⟩
  clear NC
  go_simp
  refine wpSeq_yield (S := fun _ => True) (yieldsIf_assign rfl _ rfl (.pointer (some ⟨g2, 0, none⟩)) rfl) trivial ?_
  simp only [AP]
  refine wpSeq_nil ?_
  refine (by assumption : ∀ (a : Act) (w : World), _ → _) _ _ ?_
  go_upto_region 2 with fail
  rename_i aK
  refine wp_region_seq ?_
  refine wpSeq_yield (S := fun _ => True) (yieldsIf_move rfl _ rfl (.pointer (some ⟨g, 0, none⟩)) rfl) trivial ?_
  simp only [AP]
  refine wpSeq_yield (S := fun _ => True) (v := .bool true) (Or.inl ⟨by rfl, fun w' hw' => by (go_simp; try omega)⟩) trivial ?_
  simp only [AP]
  refine wpSeq_nil ?_
  refine (by assumption : ∀ (a : Act) (w : World), _ → _) _ _ ?_
  have H2 := H.out.below b2
  have bd := below_drew (Below.refl w2.heap.size w2)
  have hS := (H2.below bd).cell
  replace R2 := R2.below bd
  replace H2 := H2.below bd
  replace b2 := b2.trans (bd.mono b2.size)
  have hgl := H.out.blk.lt
  have hsz := b2.size
  clear bd
  go_upto_region 3 with fail
  rename_i aK
  refine wp_region_S (S := fun w' => w'.cell? ⟨g, 0, none⟩ = some (.slice pv mm cv)) (by kernel_rfl) ?_
  generalize w2.drew = w3 at *
  refine wpAnyS_takeL 0 (v := .pointer (some ⟨g2, 0, none⟩)) rfl (by kernel_rfl) (by kernel_rfl) (by kernel_rfl) (fun _ _ _ H => H) (yieldsIf_move rfl _ rfl (.pointer (some ⟨g2, 0, none⟩)) rfl) hS ?_
  simp only [AP]
  refine wpAnyS_takeL 1 (v := .pointer (some ⟨g2, 0, none⟩)) rfl (by kernel_rfl) (by kernel_rfl) (by kernel_rfl) (fun _ _ _ H => H) (Or.inl ⟨by rfl, fun w' hw' => by go_simp⟩) hS ?_
  simp only [AP]
  refine wpAnyS_takeL 2 (v := .pointer (some ⟨g2, 0, none⟩)) rfl (by kernel_rfl) (by kernel_rfl) (by kernel_rfl) (fun _ _ _ H => H) (Or.inl ⟨by rfl, fun w' hw' => by go_simp⟩) hS ?_
  simp only [AP]
  refine wpAnyS_takeL 3 (v := .pointer (some ⟨g, 0, none⟩)) rfl (by kernel_rfl) (by kernel_rfl) (by kernel_rfl) (fun _ _ _ H => H) (yieldsIf_move rfl _ rfl (.pointer (some ⟨g, 0, none⟩)) rfl) hS ?_
  simp only [AP]
  refine wpAnyS_takeL 4 (v := .pointer (some ⟨g, 0, none⟩)) rfl (by kernel_rfl) (by kernel_rfl) (by kernel_rfl) (fun _ _ _ H => H) (Or.inl ⟨by rfl, fun w' hw' => by go_simp⟩) hS ?_
  simp only [AP]
  refine wpAnyS_takeL 5 (v := .pointer (some ⟨g, 0, none⟩)) rfl (by kernel_rfl) (by kernel_rfl) (by kernel_rfl) (fun _ _ _ H => H) (Or.inl ⟨by rfl, fun w' hw' => by go_simp⟩) hS ?_
  simp only [AP]
  refine wpAnyS_takeL 6 (v := .pointer (some ⟨g, 0, none⟩)) rfl (by kernel_rfl) (by kernel_rfl) (by kernel_rfl) (fun _ _ _ H => H) (Or.inl ⟨by rfl, fun w' hw' => by go_simp⟩) hS ?_
  simp only [AP]
  refine wpAnyS_takeL 7 (v := .slice pv mm cv) rfl (by kernel_rfl) (by kernel_rfl) (by kernel_rfl) (fun _ _ _ H => H) (Or.inl ⟨by rfl, fun w' hw' => by (go_simp)⟩) hS ?_
  simp only [AP]
  refine gstep 8 rfl rfl (by kernel_rfl) ?_
  unfold Oper.wp execOp
  go_simp
  have b4 := (Below.refl w3.heap.size w3).alloc (Nat.le_refl _) (.cells #[.slice pv mm cv] 22)
  have P4 := sp_one 22 H2.row.sb
  have ga := w3.heap.size
  replace R2 := R2.below b4
  replace H2 := H2.below b4
  have b5 := b2.trans (b4.mono b2.size)
  clear hS b2 b4
  refine ⟨H2.cell, ?_⟩
  generalize World.alloc w3 _ = w4 at *
  have PC := put_c W.heap.size g2 _ [] bl [m] _ _ _ w4 R2 b5.size P4 (fun l hl => by rw [List.mem_singleton.1 hl]; exact H2.bm) (Nat.zero_le _) (by simp; have := hmm.out; have := hm.out; omega) (by simp)
  rw [show [] ++ [m].flatten = m by simp] at PC
  replace PC := Lib.hid PC
  have R2g := R2.hg
  have R2l := R2.blk.lt
  have H2 := Lib.hid H2
  clear P4 R2
  refine gstep 9 rfl rfl (by kernel_rfl) ?_
  unfold Oper.wp execOp
  go_simp
  refine PC.out.mono ?_
  rintro _ w6 ⟨⟨u, rfl⟩, v6, R6, M6, _⟩
  have b6 := Mine.below b5 M6 R2g (fun k hk => by cases hk) b5.size
  have c6 : w6.cell? ⟨g, 0, none⟩ = some (.slice pv mm cv) := (cell_congr (M6.block g H2.out.blk.lt (by omega) (fun e => by cases e))).trans H2.out.cell
  refine ⟨c6, ?_⟩
  replace R6 := Lib.hid R6
  clear M6 H2 c6 PC R2l R2g hsz hgl b5
  refine wpAnyS_done (by kernel_rfl) ?_ _
  refine (by assumption : ∀ (a : Act) (w : World), _ → _) _ _ ?_
  clear aK
  go_wp2
  go_ret
  exact ⟨_, rfl, _, R6.out, b6⟩
end Go.Proofs.YtdmhngkedgkndaaDoor
