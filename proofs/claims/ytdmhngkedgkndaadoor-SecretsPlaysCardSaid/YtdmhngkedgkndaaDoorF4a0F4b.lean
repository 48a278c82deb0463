/- The program's sum, Sum, apart, Next (printed by gen15/fd.py). The program's apart, Next (printed by gen15/fe.py). -/
import Derived.Test.YtdmhngkedgkndaaDoorF3a
namespace Go.Proofs.YtdmhngkedgkndaaDoor
open Go.RowKit
theorem append_none2 (w : World) (ty : TypeId) (g n cap : Nat) (p : Option Addr) (c : Nat) (hc : n ≤ cap) :
    (Builtin.append_ #[55, 55] ty #[.slice (some ⟨g, 0, none⟩) n cap, .slice p 0 c]).run Tryd.prog w = .ok (.slice (some ⟨g, 0, none⟩) n cap) w := by
  obtain ⟨i, hi, hs, hy, hz⟩ := info_sl
  cases p <;> simp [Builtin.append_, run_underlying Tryd.underlying55, sizeOf, typeInfo, hi, Builtin.lenOf, Builtin.firstCells, loadCells, loadCellsFrom, storeCells, hc]
theorem append_list (w : World) (ty : TypeId) (v1 : Value) (p : Option Addr) (n c : Nat) (l1 : List Nat) (ls : List (List Nat)) (h1 : SB w v1 l1) (hp : SP w (.slice p n c) ls) (hn : ls.length ≤ 1000) :
    ∃ v' w', (Builtin.append_ #[55, 55] ty #[.slice (some ⟨w.heap.size, 0, none⟩) 1 1, .slice p n c]).run Tryd.prog (w.alloc (.cells #[v1] 22)) = .ok v' w' ∧ SP w' v' (l1 :: ls) ∧ Below w.heap.size w w' := by
  by_cases h : ls = []
  · subst h
    obtain ⟨p', c', e, _⟩ := hp
    simp only [Value.slice.injEq, List.length_nil] at e
    obtain ⟨rfl, rfl, rfl⟩ := e
    exact ⟨_, _, append_none2 _ ty _ 1 1 p c (Nat.le_refl _), sp_one 22 h1, (Below.refl _ _).alloc (Nat.le_refl _) _⟩
  · exact append_parts w ty v1 _ l1 ls h1 hp h hn
theorem SP.shape {w : World} {v : Value} {ls : List (List Nat)} (h : SP w v ls) : ∃ p c, v = .slice p ls.length c := by
  obtain ⟨p, c, rfl, _⟩ := h
  exact ⟨p, c, rfl⟩
set_option maxHeartbeats 8000000 in
set_option maxRecDepth 100000 in
theorem msum_c (B g : Nat) (v : Value) (m s : List Nat) (ls : List (List Nat)) (p : Option Addr) (n c : Nat) (W : World) (h : SS B W g v m s) (T : Tab W cuT) (S : Sq W sqT) (hs : SP W (.slice p n c) ls) (hb : ∀ l ∈ ls, Bytes l) (hm : m.length ≤ 100000) (hl : ls.flatten.length ≤ 100000) (hn : ls.length ≤ 1000) :
    Calls Tryd.prog 27 #[.pointer (some ⟨g, 0, none⟩), .slice p n c] W fun e w' => e = .returned (.agg (Iv .u8 (NI (sha cuT sqT (m ++ ls.flatten))))) ∧ Below W.heap.size W w' := by
  have SC := Lib.hid (fun (w3 : World) (v3 : Value) (b : Below W.heap.size W w3) (hp : SP w3 v3 (m :: ls)) => sum256_l cuT sqT w3 v3 (m :: ls) (T.below b) (S.below b) hp (fun x hx => by
    rcases List.mem_cons.1 hx with rfl | hx
    · exact h.bm
    · exact hb x hx) (by simp; omega) (by rw [List.flatten_cons, List.length_append]; omega))
  rw [List.flatten_cons] at SC
  have lX := sha_length cuT sqT (m ++ ls.flatten)
  generalize sha cuT sqT (m ++ ls.flatten) = X at *
  obtain ⟨pv, cv, rfl⟩ := h.row.shape
  have H := Lib.hid h
  have HS := Lib.hid hs
  have HN := Lib.hid hn
  obtain ⟨mm, hmm⟩ : ∃ k, m.length = k := ⟨_, rfl⟩
  rw [hmm] at H
  clear h T S hb hm hl hs hn
  replace lX := Lib.hid lX
  replace hmm := Lib.hid hmm
  go_enter Tryd.func27, Tryd.ntmps27
  go_upto_region 0 with fail
  rename_i aK
  refine wp_region_seq ?_
  refine wpSeq_wp rfl ?_
  unfold Oper.wp execOp
  go_simp
  refine wpSeq_nil ?_
  refine (by assumption : ∀ (a : Act) (w : World), _ → _) _ _ ?_
  have b := (Below.refl W.heap.size W).alloc (Nat.le_refl _) (.cells (Iv .u8 (NI z32)) 28)
  have K : Blk (W.alloc (.cells (Iv .u8 (NI z32)) 28)) W.heap.size 28 (Iv .u8 (NI z32)) := Blk.new _ _ _
  change Code.wp _ _ _ _ (World.alloc W (.cells (Iv .u8 (NI z32)) 28))
  generalize World.alloc W _ = w1 at *
  have H1 := H.out.below b
  have c1 := H1.cell
  obtain ⟨v3, w3, h1, h2, h3⟩ := append_list w1 55 _ p n c m ls H1.row.sb (HS.out.below b) HN.out
  obtain ⟨q3, d3, rfl⟩ := h2.shape
  rw [List.length_cons] at *
  obtain ⟨n3, hn3⟩ : ∃ k, ls.length + 1 = k := ⟨_, rfl⟩
  rw [hn3] at h1 h2
  have K3 := K.below' h3
  have b3 := b.trans (h3.mono b.size)
  have SC3 := Lib.hid (SC.out w3 _ b3 h2)
  replace h1 := Lib.hid h1
  clear h2 h3 hn3 H1 b SC HS K
  go_upto_region 1 with fail
  rename_i aK
  refine wp_region_seq ?_
  refine wpSeq_yield (S := fun _ => True) (yieldsIf_move rfl _ rfl (.pointer (some ⟨g, 0, none⟩)) rfl) trivial ?_
  simp only [AP]
  refine wpSeq_yield (S := fun _ => True) (v := .pointer (some ⟨g, 0, none⟩)) (Or.inl ⟨by rfl, fun w' hw' => by go_simp⟩) trivial ?_
  simp only [AP]
  refine wpSeq_yield (S := fun _ => True) (v := .pointer (some ⟨g, 0, none⟩)) (Or.inl ⟨by rfl, fun w' hw' => by go_simp⟩) trivial ?_
  simp only [AP]
  refine wpSeq_yield (S := fun w' => w' = w1) (v := .slice pv mm cv) (Or.inl ⟨by rfl, fun w' hw' => by (rw [hw']; go_simp)⟩) rfl ?_
  simp only [AP]
  refine wpSeq_wp rfl ?_
  unfold Oper.wp execOp
  go_simp
  refine wpSeq_yield (S := fun _ => True) (yieldsIf_move rfl _ rfl (.slice p n c) rfl) trivial ?_
  simp only [AP]
  refine wpSeq_wp rfl (wp_append_run _ _ _ _ rfl _ _ rfl rfl _ w3 h1.out ?_)
  simp only [AP]
  refine wpSeq_wp rfl ?_
  unfold Oper.wp execOp
  go_simp
  refine SC3.out.mono ?_
  rintro _ w4 ⟨rfl, b4⟩
  have K4 := K3.below' b4
  replace b3 := b3.trans (b4.mono b3.size)
  clear b4 SC3 K3 h1
  go_simp
  refine wpSeq_store_row rfl 28 _ _ rfl W.heap.size (Iv .u8 (NI X)) rfl rfl _ _ K4 (info_k32 X lX.out) (size_32 z32_length lX.out) (u8s_one _) ?_
  simp only [Act.put]
  refine wpSeq_nil ?_
  have KR := Blk.row K4 (Iv .u8 (NI X))
  have b9 := below_setRow b3 (Nat.le_refl _) (Iv .u8 (NI X))
  generalize World.setRow w4 _ _ = w9 at *
  go_wp2
  exact bodyPost_ret (results_cell_row rfl _ _ _ 28 _ (0, 0) _ rfl KR Tryd.underlying28 rfl (info_k32 X lX.out)) rfl ⟨rfl, b9⟩
set_option maxHeartbeats 8000000 in
set_option maxRecDepth 100000 in
theorem sum_nil (p : Option Addr) (n c : Nat) (W : World) :
    Calls Tryd.prog 17 #[.pointer none, .slice p n c] W fun e w' => e = .returned (.agg (Iv .u8 (NI z32))) ∧ Below W.heap.size W w' := by
  go_enter Tryd.func17, Tryd.ntmps17
  go_upto_region 0 with fail
  rename_i aK
  refine wp_region_seq ?_
  refine wpSeq_wp rfl ?_
  unfold Oper.wp execOp
  go_simp
  refine wpSeq_nil ?_
  refine (by assumption : ∀ (a : Act) (w : World), _ → _) _ _ ?_
  have b := (Below.refl W.heap.size W).alloc (Nat.le_refl _) (.cells (Iv .u8 (NI z32)) 28)
  have K : Blk (W.alloc (.cells (Iv .u8 (NI z32)) 28)) W.heap.size 28 (Iv .u8 (NI z32)) := Blk.new _ _ _
  change Code.wp _ _ _ _ (World.alloc W (.cells (Iv .u8 (NI z32)) 28))
  generalize World.alloc W _ = w1 at *
  go_upto_region 1 with fail
  rename_i aK
  refine wp_region_seq ?_
  refine wpSeq_yield (S := fun _ => True) (yieldsIf_move rfl _ rfl (.pointer none) rfl) trivial ?_
  simp only [AP]
  refine wpSeq_yield (S := fun _ => True) (v := .bool true) (Or.inl ⟨by rfl, fun w' hw' => by (go_simp; try omega)⟩) trivial ?_
  simp only [AP]
  refine wpSeq_nil ?_
  refine (by assumption : ∀ (a : Act) (w : World), _ → _) _ _ ?_
  go_upto_region 2 with fail
  rename_i aK
  refine wp_region_seq ?_
  refine wpSeq_yield (S := fun _ => True) (show YieldsIf _ _ _ _ (.agg (Iv .u8 (NI z32))) _ from yieldsIf_zero rfl rfl) trivial ?_
  simp only [AP]
  refine wpSeq_store_row rfl 28 _ _ rfl W.heap.size (Iv .u8 (NI z32)) rfl rfl _ _ K (info_k32 z32 z32_length) (size_32 z32_length z32_length) (u8s_one _) ?_
  simp only [Act.put]
  refine wpSeq_nil ?_
  refine (by assumption : ∀ (a : Act) (w : World), _ → _) _ _ ?_
  have KR := Blk.row K (Iv .u8 (NI z32))
  have b9 := below_setRow b (Nat.le_refl _) (Iv .u8 (NI z32))
  generalize World.setRow w1 _ _ = w9 at *
  go_wp2
  exact bodyPost_ret (results_cell_row rfl _ _ _ 28 _ (0, 0) _ rfl KR Tryd.underlying28 rfl (info_k32 z32 z32_length)) rfl ⟨rfl, b9⟩
set_option maxHeartbeats 8000000 in
set_option maxRecDepth 100000 in
theorem sum_c (B g : Nat) (v : Value) (m s : List Nat) (ls : List (List Nat)) (p : Option Addr) (n c : Nat) (W : World) (h : SS B W g v m s) (T : Tab W cuT) (S : Sq W sqT) (hs : SP W (.slice p n c) ls) (hb : ∀ l ∈ ls, Bytes l) (hm : m.length ≤ 100000) (hl : ls.flatten.length ≤ 100000) (hn : ls.length ≤ 1000) :
    Calls Tryd.prog 17 #[.pointer (some ⟨g, 0, none⟩), .slice p n c] W fun e w' => e = .returned (.agg (Iv .u8 (NI (sha cuT sqT (m ++ ls.flatten))))) ∧ Below W.heap.size W w' := by
  have MC := Lib.hid (fun (w : World) (b : Below W.heap.size W w) => msum_c B g v m s ls p n c w (h.below b) (T.below b) (S.below b) (hs.below b) hb hm hl hn)
  have lX := Lib.hid (sha_length cuT sqT (m ++ ls.flatten))
  generalize sha cuT sqT (m ++ ls.flatten) = X at *
  clear h T S hs hb hm hl hn
  go_enter Tryd.func17, Tryd.ntmps17
  go_upto_region 0 with fail
  rename_i aK
  refine wp_region_seq ?_
  refine wpSeq_wp rfl ?_
  unfold Oper.wp execOp
  go_simp
  refine wpSeq_nil ?_
  refine (by assumption : ∀ (a : Act) (w : World), _ → _) _ _ ?_
  have b := (Below.refl W.heap.size W).alloc (Nat.le_refl _) (.cells (Iv .u8 (NI z32)) 28)
  have K : Blk (W.alloc (.cells (Iv .u8 (NI z32)) 28)) W.heap.size 28 (Iv .u8 (NI z32)) := Blk.new _ _ _
  change Code.wp _ _ _ _ (World.alloc W (.cells (Iv .u8 (NI z32)) 28))
  generalize World.alloc W _ = w1 at *
  go_upto_region 1 with fail
  rename_i aK
  refine wp_region_seq ?_
  refine wpSeq_yield (S := fun _ => True) (yieldsIf_move rfl _ rfl (.pointer (some ⟨g, 0, none⟩)) rfl) trivial ?_
  simp only [AP]
  refine wpSeq_yield (S := fun _ => True) (v := .bool false) (Or.inl ⟨by rfl, fun w' hw' => by (go_simp; try omega)⟩) trivial ?_
  simp only [AP]
  refine wpSeq_nil ?_
  refine (by assumption : ∀ (a : Act) (w : World), _ → _) _ _ ?_
  go_upto_region 3 with fail
  rename_i aK
  refine wp_region_seq ?_
  refine wpSeq_yield (S := fun _ => True) (yieldsIf_move rfl _ rfl (.pointer (some ⟨g, 0, none⟩)) rfl) trivial ?_
  simp only [AP]
  refine wpSeq_yield (S := fun _ => True) (v := .pointer (some ⟨g, 0, none⟩)) (Or.inl ⟨by rfl, fun w' hw' => by go_simp⟩) trivial ?_
  simp only [AP]
  refine wpSeq_yield (S := fun _ => True) (v := .pointer (some ⟨g, 0, none⟩)) (Or.inl ⟨by rfl, fun w' hw' => by go_simp⟩) trivial ?_
  simp only [AP]
  refine wpSeq_yield (S := fun _ => True) (yieldsIf_move rfl _ rfl (.slice p n c) rfl) trivial ?_
  simp only [AP]
  refine wpSeq_wp rfl ?_
  unfold Oper.wp execOp
  go_simp
  refine (MC.out w1 b).mono ?_
  rintro _ w4 ⟨rfl, b4⟩
  have K4 := K.below' b4
  have b3 := b.trans (b4.mono b.size)
  clear b4 MC K b
  go_simp
  refine wpSeq_store_row rfl 28 _ _ rfl W.heap.size (Iv .u8 (NI X)) rfl rfl _ _ K4 (info_k32 X lX.out) (size_32 z32_length lX.out) (u8s_one _) ?_
  simp only [Act.put]
  refine wpSeq_nil ?_
  refine (by assumption : ∀ (a : Act) (w : World), _ → _) _ _ ?_
  have KR := Blk.row K4 (Iv .u8 (NI X))
  have b9 := below_setRow b3 (Nat.le_refl _) (Iv .u8 (NI X))
  generalize World.setRow w4 _ _ = w9 at *
  go_wp2
  exact bodyPost_ret (results_cell_row rfl _ _ _ 28 _ (0, 0) _ rfl KR Tryd.underlying28 rfl (info_k32 X lX.out)) rfl ⟨rfl, b9⟩
end Go.Proofs.YtdmhngkedgkndaaDoor
namespace Go.Proofs.YtdmhngkedgkndaaDoor
open Go.RowKit
def none32 : List Nat := sha cuT sqT []
theorem none32_length : none32.length = 32 := sha_length _ _ _
theorem none32_bytes : Bytes none32 := sha_bytes _ _ _
theorem sp_nil (w : World) : SP w (.slice none 0 0) [] := ⟨none, 0, rfl, Nat.le_refl _, Or.inl rfl⟩
theorem labL_bytes (s : List Nat) (t : ByteArray) (c : List Nat) (m : Nat) : Bytes (labL s t c m) := expandL_bytes _ _ _ _ _
theorem sum_none (w : World) (T : Tab w cuT) (S : Sq w sqT) : Calls Tryd.prog 30 #[.slice none 0 0] w fun e w' => e = .returned (.agg (Iv .u8 (NI none32))) ∧ Below w.heap.size w w' := by
  have h := sum256_l cuT sqT w (.slice none 0 0) [] T S (sp_nil w) (fun l h => by cases h) (by simp) (by simp)
  exact h
/-- What is apart. -/
def apartL (s : List Nat) (t : ByteArray) : List Nat := labL s t none32 32
theorem apartL_length (s : List Nat) (t : ByteArray) : (apartL s t).length = 32 := labL_length _ _ _ _
theorem apartL_bytes (s : List Nat) (t : ByteArray) : Bytes (apartL s t) := labL_bytes _ _ _ _
set_option maxHeartbeats 8000000 in
set_option maxRecDepth 100000 in
theorem apart_c (s : List Nat) (t : ByteArray) (ls : s.length = 32) (bs : Bytes s) (ht : t.size ≤ 249) (W : World) (T : Tab W cuT) (S : Sq W sqT) :
    Calls Tryd.prog 22 #[.agg (Iv .u8 (NI s)), .string t] W fun e w' => e = .returned (.agg (Iv .u8 (NI (apartL s t)))) ∧ Below W.heap.size W w' := by
  have SC := Lib.hid (fun (w : World) (b : Below W.heap.size W w) => sum_none w (T.below b) (S.below b))
  have KC := Lib.hid (fun (w : World) (b : Below W.heap.size W w) (cv : Value) (hc : SB w cv none32) => key_ok w s t none32 cv (T.below b) (S.below b) hc ls bs none32_bytes ht (by rw [none32_length]; decide))
  rw [show labL s t none32 32 = apartL s t from rfl] at KC
  have lX := Lib.hid (apartL_length s t)
  have lN := Lib.hid none32_length
  generalize apartL s t = X at *
  generalize none32 = N at *
  have lS := Lib.hid ls
  clear T S bs ht ls
  go_enter Tryd.func22, Tryd.ntmps22
  go_upto_region 0 with fail
  rename_i aK
  refine wp_region_seq ?_
  refine wpSeq_wp rfl ?_
  unfold Oper.wp execOp
  go_simp
  refine wpSeq_wp rfl ?_
  unfold Oper.wp execOp
  go_simp
  refine wpSeq_nil ?_
  refine (by assumption : ∀ (a : Act) (w : World), _ → _) _ _ ?_
  generalize hW : World.alloc (World.alloc W _) _ = w1
  obtain ⟨Z, hZ, K0, K1, b⟩ : ∃ Z : Array Value, Z.size = 32 ∧ Blk w1 W.heap.size 28 (Iv .u8 (NI s)) ∧ Blk w1 (W.heap.size + 1) 28 Z ∧ Below W.heap.size W w1 := by
    rw [← hW]
    exact ⟨_, rfl, two_alloc W _ _ _ _⟩
  clear hW
  go_upto_region 1 with fail
  rename_i aK
  refine wp_region_seq ?_
  refine wpSeq_wp rfl ?_
  unfold Oper.wp execOp
  go_simp
  refine (SC.out w1 b).mono ?_
  rintro _ w2 ⟨rfl, b2⟩
  replace K0 := K0.below' b2
  replace K1 := K1.below' b2
  replace b := b.trans (b2.mono b.size)
  clear b2 SC
  go_simp
  refine wpSeq_wp rfl ?_
  unfold Oper.wp execOp
  go_simp
  refine wpSeq_store_row rfl 28 _ _ rfl w2.heap.size (Iv .u8 (NI N)) rfl rfl _ _ (Blk.new w2 _ _) (info_k32 N lN.out) (size_32 (rfl : (List.replicate 32 0).length = 32) lN.out) (u8s_one _) ?_
  simp only [Act.put]
  refine wpSeq_nil ?_
  refine (by assumption : ∀ (a : Act) (w : World), _ → _) _ _ ?_
  generalize hwx : World.setRow _ w2.heap.size _ = w3
  have FX : Blk w3 w2.heap.size 28 (Iv .u8 (NI N)) ∧ Below w2.heap.size w2 w3 := by
    rw [← hwx]
    exact one_row _ _ _ _
  clear hwx
  obtain ⟨KN, bx⟩ := FX
  replace K0 := K0.below' bx
  replace K1 := K1.below' bx
  replace b := b.trans (bx.mono b.size)
  clear bx
  have bd := below_drew (Below.refl w3.heap.size w3)
  replace K0 := K0.below' bd
  replace K1 := K1.below' bd
  replace KN := KN.below' bd
  replace b := b.trans (bd.mono b.size)
  clear bd
  have sz := b.size
  go_upto_region 2 with fail
  refine wp_region_S (S := fun w' => Blk w' W.heap.size 28 (Iv .u8 (NI s))) (by kernel_rfl) ?_
  generalize w3.drew = w4 at *
  have hS := K0
  have C2 := sb_key KN lN.out
  have KC4 := Lib.hid (KC.out w4 b _ C2)
  clear C2 KN KC K0
  obtain ⟨gn, hgn⟩ : ∃ k, w2.heap.size = k := ⟨_, rfl⟩
  rw [hgn] at KC4 ⊢
  clear hgn
  refine wpAnyS_takeL 0 (v := .agg (Iv .u8 (NI s))) rfl (by kernel_rfl) (by kernel_rfl) (by kernel_rfl) (fun _ _ _ H => H) (show YieldsIf _ _ _ _ (.agg (Iv .u8 (NI s))) _ from yieldsIf_row_wanted (S := fun w' => Blk w' W.heap.size 28 (Iv .u8 (NI s))) rfl 28 _ rfl W.heap.size rfl 28 _ _ (fun _ h => h) Tryd.underlying28 rfl (info_k32 s lS.out)) hS ?_
  simp only [AP]
  refine wpAnyS_takeL 1 (v := .string t) rfl (by kernel_rfl) (by kernel_rfl) (by kernel_rfl) (fun _ _ _ H => H) (yieldsIf_move rfl _ rfl (.string t) rfl) hS ?_
  simp only [AP]
  refine wpAnyS_takeL 2 (v := .slice (some ⟨gn, 0, none⟩) 32 32) rfl (by kernel_rfl) (by kernel_rfl) (by kernel_rfl) (fun _ _ _ H => H) (Or.inl ⟨by rfl, fun w' hw' => by (go_simp)⟩) hS ?_
  simp only [AP]
  refine gstep 3 rfl rfl (by kernel_rfl) ?_
  unfold Oper.wp execOp
  go_simp
  refine KC4.out.mono ?_
  rintro _ w5 ⟨rfl, b5⟩
  replace hS := hS.below' b5
  replace K1 := K1.below' b5
  replace b := b.trans (b5.mono b.size)
  clear b5 KC4
  refine ⟨hS, ?_⟩
  refine gstep 4 rfl rfl (by kernel_rfl) ?_
  refine wp_store_row 28 _ _ rfl (W.heap.size + 1) (Iv .u8 (NI X)) rfl rfl 28 _ K1 (info_k32 X lX.out) (by rw [Iv_size, NI_length, lX.out]; exact hZ) (Iv_one _ _) ?_
  refine ⟨hS.rowFar (by omega) _, ?_⟩
  simp only [Act.put]
  have KR := K1.row (Iv .u8 (NI X))
  have b9 := below_setRow b (Nat.le_succ _) (Iv .u8 (NI X))
  generalize World.setRow w5 _ _ = w9 at *
  clear hS K1 b
  refine wpAnyS_done (by kernel_rfl) ?_ _
  refine (by assumption : ∀ (a : Act) (w : World), _ → _) _ _ ?_
  go_wp2
  exact bodyPost_ret (results_cell_row rfl _ _ _ 28 _ (0, 0) _ rfl KR Tryd.underlying28 rfl (info_k32 X lX.out)) rfl ⟨rfl, b9⟩
def derS : ByteArray := ⟨#[100, 101, 114, 105, 118, 101, 100]⟩
def nextL (s k : List Nat) : List Nat := hmac cuT sqT (apartL s derS) k
theorem nextL_length (s k : List Nat) : (nextL s k).length = 32 := hmac_length _ _ _ _
theorem nextL_bytes (s k : List Nat) : Bytes (nextL s k) := hmac_bytes _ _ _ _
theorem yieldsIf_secret {ops : Array Oper} {S : World → Prop} {o : Oper} {a : Act} (hgd : Region.wanted o (yielded ops a.tmps) = true) (x : Operand) (ho : o.op = .load 28 x) (B g : Nat) (v : Value) (m s : List Nat) (hx : a.eval x = .pointer (some ⟨g, 1, none⟩)) (h : ∀ w, S w → SS B w g v m s) : YieldsIf Tryd.prog ops S o (.agg (Iv .u8 (NI s))) a := by
  refine Or.inl ⟨hgd, fun w hw => ?_⟩
  have hs := h w hw
  rcases yieldsIf_load_mid (P := Tryd.prog) (ops := ops) (S := S) hgd 28 x ho g 1 hx (cl s) _ (fun w hw => (h w hw).range) Tryd.underlying28 rfl (info_mid32 s hs.ls) with ⟨_, h1⟩ | ⟨h1, _⟩
  · exact h1 w hw
  · rw [hgd] at h1
    cases h1
theorem SS.next {B g : Nat} {w : World} {v : Value} {m s s' : List Nat} (h : SS B w g v m s) (bs : Bytes s') (ls : s'.length = 32) : SS B (w.setCells g 1 (cl s')) g v m s' ∧ w.grownBy (w.setCells g 1 (cl s')) (some g) := by
  have G := setCells_gb (g := g) (cl s') 1 w
  have K := blk_setA (cl s') _ 1 w h.blk
  rw [rowS_put _ _ _ (by rw [h.ls, ls])] at K
  exact ⟨⟨K, h.hg, h.row.of_block (fun k hk => G.block k (h.row.lt k hk).2 (fun e => h.ne (by rw [hk, e]))), h.ne, h.bm, bs, ls⟩, G⟩
theorem next_nil (p : Option Addr) (n c : Nat) (W : World) :
    Calls Tryd.prog 10 #[.pointer none, .slice p n c] W fun e w' => (∃ u, e = .returned u) ∧ w' = W := by
  go_enter Tryd.func10, Tryd.ntmps10
  go_wp2
  refine bodyPost_end (results_none rfl _ _ _) rfl ?_
  exact ⟨⟨_, rfl⟩, rfl⟩
set_option maxHeartbeats 8000000 in
set_option maxRecDepth 100000 in
theorem next_c (B g : Nat) (v : Value) (m s : List Nat) (k : List Nat) (p : Option Addr) (n c : Nat) (W : World) (h : SS B W g v m s) (T : Tab W cuT) (S : Sq W sqT) (hk : SB W (.slice p n c) k) (bk : Bytes k) (lk : k.length ≤ 100000) :
    Calls Tryd.prog 10 #[.pointer (some ⟨g, 0, none⟩), .slice p n c] W fun e w' => (∃ u, e = .returned u) ∧ SS B w' g v m (nextL s k) ∧ Mine g none W w' := by
  have AC := Lib.hid (fun (w : World) (b : Below W.heap.size W w) => apart_c s derS h.ls h.bs (by decide) w (T.below b) (S.below b))
  have EC := Lib.hid (fun (w : World) (b : Below W.heap.size W w) (kv : Value) (hv : SB w kv (apartL s derS)) => extract_any cuT sqT w kv (.slice p n c) (apartL s derS) k (T.below b) (S.below b) hv (hk.below b) (apartL_bytes s derS) bk (by rw [apartL_length]; decide) (by omega))
  rw [show hmac cuT sqT (apartL s derS) k = nextL s k from rfl] at EC
  have LA := Lib.hid (apartL_length s derS)
  have LN := Lib.hid (And.intro (nextL_length s k) (nextL_bytes s k))
  generalize apartL s derS = A at *
  generalize nextL s k = N at *
  have H := Lib.hid h
  clear T S bk lk hk h
  go_enter Tryd.func10, Tryd.ntmps10
  go_upto_region 0 with fail
  rename_i aK
  refine wp_region_seq ?_
  refine wpSeq_yield (S := fun _ => True) (yieldsIf_move rfl _ rfl (.pointer (some ⟨g, 0, none⟩)) rfl) trivial ?_
  simp only [AP]
  refine wpSeq_yield (S := fun _ => True) (v := .bool true) (Or.inl ⟨by rfl, fun w' hw' => by (go_simp; try omega)⟩) trivial ?_
  simp only [AP]
  refine wpSeq_nil ?_
  refine (by assumption : ∀ (a : Act) (w : World), _ → _) _ _ ?_
  go_upto_region 1 with fail
  rename_i aK
  refine wp_region_seq ?_
  refine wpSeq_yield (S := fun _ => True) (yieldsIf_move rfl _ rfl (.pointer (some ⟨g, 0, none⟩)) rfl) trivial ?_
  simp only [AP]
  refine wpSeq_yield (S := fun _ => True) (v := .pointer (some ⟨g, 0, none⟩)) (Or.inl ⟨by rfl, fun w' hw' => by go_simp⟩) trivial ?_
  simp only [AP]
  refine wpSeq_yield (S := fun _ => True) (v := .pointer (some ⟨g, 1, none⟩)) (Or.inl ⟨by rfl, fun w' hw' => by go_simp⟩) trivial ?_
  simp only [AP]
  refine wpSeq_yield (S := fun w' => w' = W) (show YieldsIf _ _ _ _ (.agg (Iv .u8 (NI s))) _ from yieldsIf_secret (S := fun w' => w' = W) rfl _ rfl B g v m s rfl (fun _ h => h ▸ H.out)) rfl ?_
  simp only [AP]
  refine wpSeq_wp rfl ?_
  unfold Oper.wp execOp
  go_simp
  refine (AC.out W (Below.refl _ _)).mono ?_
  rintro _ w2 ⟨rfl, b⟩
  clear AC
  go_simp
  refine wpSeq_wp rfl ?_
  unfold Oper.wp execOp
  go_simp
  refine wpSeq_store_row rfl 28 _ _ rfl w2.heap.size (Iv .u8 (NI A)) rfl rfl _ _ (Blk.new w2 _ _) (info_k32 A LA.out) (size_32 (rfl : (List.replicate 32 0).length = 32) LA.out) (u8s_one _) ?_
  simp only [Act.put]
  refine wpSeq_nil ?_
  refine (by assumption : ∀ (a : Act) (w : World), _ → _) _ _ ?_
  generalize hwx : World.setRow _ w2.heap.size _ = w3
  have FX : Blk w3 w2.heap.size 28 (Iv .u8 (NI A)) ∧ Below w2.heap.size w2 w3 := by
    rw [← hwx]
    exact one_row _ _ _ _
  clear hwx
  obtain ⟨KA, bx⟩ := FX
  replace b := b.trans (bx.mono b.size)
  clear bx
  have C3 := sb_key KA LA.out
  have EC3 := Lib.hid (EC.out w3 b _ C3)
  clear C3 EC KA
  go_upto_region 2 with fail
  rename_i aK
  refine wp_region_seq ?_
  refine wpSeq_yield (S := fun _ => True) (yieldsIf_move rfl _ rfl (.pointer (some ⟨g, 0, none⟩)) rfl) trivial ?_
  simp only [AP]
  refine wpSeq_yield (S := fun _ => True) (v := .slice (some ⟨w2.heap.size, 0, none⟩) 32 32) (Or.inl ⟨by rfl, fun w' hw' => by go_simp⟩) trivial ?_
  simp only [AP]
  refine wpSeq_yield (S := fun _ => True) (yieldsIf_move rfl _ rfl (.slice p n c) rfl) trivial ?_
  simp only [AP]
  refine wpSeq_wp rfl ?_
  unfold Oper.wp execOp
  go_simp
  refine EC3.out.mono ?_
  rintro _ w4 ⟨rfl, b4⟩
  replace b := b.trans (b4.mono b.size)
  clear b4 EC3
  have H4 := H.out.below b
  go_simp
  refine wpSeq_yield (S := fun _ => True) (v := .pointer (some ⟨g, 0, none⟩)) (Or.inl ⟨by rfl, fun w' hw' => by go_simp⟩) trivial ?_
  simp only [AP]
  refine wpSeq_yield (S := fun _ => True) (v := .pointer (some ⟨g, 1, none⟩)) (Or.inl ⟨by rfl, fun w' hw' => by go_simp⟩) trivial ?_
  simp only [AP]
  refine wpSeq_wp rfl (wp_store_mid 28 _ _ rfl g 1 (Iv .u8 (NI N)) rfl rfl (by rw [Iv_size, NI_length, LN.out.1]; exact H4.there) (info_k32 N LN.out.1) (Iv_one _ _) ?_)
  rw [iv_cl]
  simp only [Act.put]
  refine wpSeq_nil ?_
  have R := H4.next LN.out.2 LN.out.1
  have M : Mine g none W (w4.setCells g 1 (cl N)) := (Mine.of b).trans (Mine.of_g R.2)
  refine bodyPost_end (results_none rfl _ _ _) rfl ?_
  exact ⟨⟨_, rfl⟩, R.1, M⟩
end Go.Proofs.YtdmhngkedgkndaaDoor
