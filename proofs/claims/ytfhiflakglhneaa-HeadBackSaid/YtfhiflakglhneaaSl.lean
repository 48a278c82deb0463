/- The law HeadCut, by contract (printed by gen12/sl.py). -/
import Derived.Test.YtfhiflakglhneaaSc
import Derived.Test.YtfhiflakglhneaaSj
namespace Go.Proofs.Ytfhiflakglhneaa
open Go.RowKit

theorem yieldsIf_hd {ops : Array Oper} {o : Oper} {a : Act} (hgd : Region.wanted o (yielded ops a.tmps) = true) (x : Operand) (ho : o.op = .load 31 x) (g : Nat) (hx : a.eval x = .pointer (some ⟨g, 0, none⟩)) (sp : Int) (vt vf : Value) (W : World) (K : Blk W g 31 #[.int .i64 sp, vt, vf]) : YieldsIf Try.prog ops (fun w' => w' = W) o (.agg #[.int .i64 sp, vt, vf]) a :=
  yieldsIf_load_mid (S := fun w' => w' = W) hgd 31 x ho g 0 hx [.int .i64 sp, vt, vf] _ (fun _ h => h ▸ blk_range K) Try.underlying31 rfl info_hd
theorem hd_one (q : Int) (p1 p2 : Option Addr) (n1 n2 c1 c2 : Nat) : (#[Value.int .i64 q, .slice p1 n1 c1, .slice p2 n2 c2] : Array Value).all (·.oneCell') = true := by simp [Value.oneCell']
theorem putF_right (q : Nat) (hq : q ≤ 2) (to fr : List Nat) (ht : to.length = 8) (hf : fr.length = 8) (pn k z : Nat) (hk : 1 ≤ k ∧ k ≤ 4) (hz : z ≤ 1200) : putF (q : Int) to fr pn (k : Int) (z : Int) = (0, headB q to fr pn k z) := if_neg (by unfold badH; omega)
theorem headB_len (q : Nat) (to fr : List Nat) (ht : to.length = 8) (hf : fr.length = 8) (pn k z : Nat) (hk : 1 ≤ k ∧ k ≤ 4) : 10 ≤ (headB q to fr pn k z).length ∧ (headB q to fr pn k z).length ≤ 40 := by
  by_cases h2 : q = 2
  · rw [show headB q to fr pn k z = (63 + k) :: (to ++ beL pn k) from if_pos h2]
    simp only [List.length_append, List.length_cons, beL_len]
    omega
  · rw [show headB q to fr pn k z = (191 + 32 * q + k) :: (longB q to fr (k + z) ++ beL pn k) from if_neg h2]
    have l : (zeroB q).length ≤ 1 := by
      unfold zeroB
      split
      · exact Nat.le_refl _
      · exact Nat.zero_le _
    unfold longB
    simp only [List.length_append, List.length_cons, List.length_nil, beL_len]
    omega
theorem headB_bytes (q : Nat) (hq : q ≤ 2) (to fr : List Nat) (ht : Bytes to) (hf : Bytes fr) (pn k z : Nat) (hk : 1 ≤ k ∧ k ≤ 4) (hz : z ≤ 1200) : Bytes (headB q to fr pn k z) := by
  have hb : Bytes (beL pn k) := beL_bytes pn k
  have one : ∀ x, x < 256 → Bytes [x] := fun x h y hy => by
    rw [List.mem_singleton] at hy
    omega
  by_cases h2 : q = 2
  · rw [show headB q to fr pn k z = [63 + k] ++ (to ++ beL pn k) from if_pos h2]
    exact (one _ (by omega)).append (ht.append hb)
  · rw [show headB q to fr pn k z = [191 + 32 * q + k] ++ (longB q to fr (k + z) ++ beL pn k) from if_neg h2]
    refine (one _ (by omega)).append (Bytes.append ?_ hb)
    unfold longB
    refine Bytes.append (fun x hx => ?_) ((one _ (by decide)).append (ht.append ((one _ (by decide)).append (hf.append (Bytes.append ?_ ?_)))))
    · simp only [List.mem_cons, List.not_mem_nil, or_false] at hx
      omega
    · unfold zeroB
      split
      · exact one _ (by decide)
      · exact Bytes.nil
    · intro x hx
      simp only [List.mem_cons, List.not_mem_nil, or_false] at hx
      omega
set_option maxHeartbeats 8000000 in
set_option maxRecDepth 100000 in
theorem hcut_c (SC : ShortC) (FC : FullC) (PC : PutHC) (TC : TakeC) (s : Nat) (to fr : List Nat) (z c : Nat) (hs : s < 256) (lt : to.length = 8) (lf : fr.length = 8) (bt : Bytes to) (bf : Bytes fr) (hz : z < 256) (hc : c < 256) (W : World) : Calls Try.prog 7 #[.int .u8 (s : Int), .agg (Iv .u8 (NI to)), .agg (Iv .u8 (NI fr)), .int .u8 (z : Int), .int .u8 (c : Int)] W fun e w' => e = .returned (.bool true) ∧ Below W.heap.size W w' := by
  have AW := Lib.hid (hawake_c SC FC)
  obtain ⟨q, hq⟩ : ∃ q, s % 2 = q := ⟨_, rfl⟩
  have e1 : (s : Int).tmod 2 = (q : Int) := by rw [Int.tmod_eq_emod_of_nonneg (by omega)]; omega
  have u1 : IntKind.u8.wrap (q : Int) = (q : Int) := by rw [IntKind.wrap_u8]; omega
  have u2 : IntKind.i64.wrap (q : Int) = (q : Int) := by rw [IntKind.wrap_i64]; omega
  have u3 : IntKind.i64.wrap (z : Int) = (z : Int) := by rw [IntKind.wrap_i64]; omega
  have q3 : q ≤ 2 := by omega
  have k4 : 1 ≤ 1 ∧ 1 ≤ 4 := by omega
  obtain ⟨bs, hbs⟩ : ∃ bs, headB q to fr 7 1 z = bs := ⟨_, rfl⟩
  have EP := putF_right q q3 to fr lt lf 7 1 z k4 (by omega)
  have LB := headB_len q to fr lt lf 7 1 z k4
  have BB := headB_bytes q q3 to fr bt bf 7 1 z k4 (by omega)
  rw [hbs] at EP LB BB
  obtain ⟨i, hi⟩ : ∃ i, c % bs.length = i := ⟨_, rfl⟩
  have il : i < bs.length := by rw [← hi]; exact Nat.mod_lt _ (by omega)
  have TK : takeF (bs.take i) = noHd 3 := by rw [← hbs]; exact take_cut q (by omega) to fr lt lf 7 1 z k4 (by omega) i (by rw [hbs]; exact il)
  have C1 := Lib.hid (fun vt vf W h1 h2 => PC (q : Int) to fr 7 (1 : Nat) (z : Int) vt vf W (by unfold i64_ok; omega) (by unfold i64_ok; omega) (by unfold i64_ok; omega) bt bf (by omega) (by omega) (by decide) h1 h2)
  have C2 := Lib.hid (fun p n c hn W h => TC (bs.take i) p n c (BB.take i) hn W h)
  unfold PutPost at C1
  rw [EP] at C1
  rw [TK] at C2
  dsimp only [noHd, hdV, hdL] at C1 C2
  obtain ⟨L, hL⟩ : ∃ L, bs.length = L := ⟨_, rfl⟩
  rw [hL] at hi LB il
  have HL := Lib.hid hL
  have e4 : (c : Int).tmod (L : Int) = (i : Int) := by
    rw [← hi, Int.tmod_eq_emod_of_nonneg (by omega)]
    exact (Int.natCast_emod c L).symm
  have u8 : IntKind.i64.wrap (i : Int) = (i : Int) := by rw [IntKind.wrap_i64]; omega
  have u9 : IntKind.i64.wrap (c : Int) = (c : Int) := by rw [IntKind.wrap_i64]; omega
  have lz : ¬ (L : Int) = 0 := by omega
  have LL := Lib.hid (show to.length = 8 ∧ fr.length = 8 by omega)
  clear SC FC PC TC hq hbs EP BB hi TK hL
  go_enter Try.func7, Try.ntmps7
  go_upto_region 0 with fail
  rename_i aK
  refine wp_region_seq ?_
  refine wpSeq_wp rfl ?_
  unfold Oper.wp execOp
  go_simp
  refine wpSeq_wp rfl ?_
  unfold Oper.wp execOp
  go_simp
  refine wpSeq_yield (S := fun _ => True) (yieldsIf_assign rfl _ rfl (.bool false) rfl) trivial ?_
  simp only [AP]
  refine wpSeq_nil ?_
  refine aK _ _ ?_
  clear aK
  have A1 := BA.of_blk ((Blk.new W 39 (Iv .u8 (NI to))).alloc (.cells (Iv .u8 (NI fr)) 39))
  have A2 := BA.of_blk (Blk.new (W.alloc (.cells (Iv .u8 (NI to)) 39)) 39 (Iv .u8 (NI fr)))
  rw [size_alloc1] at A2
  have b := ((Below.refl W.heap.size W).alloc (Nat.le_refl _) (.cells (Iv .u8 (NI to)) 39)).alloc (by rw [size_alloc1]; omega) (.cells (Iv .u8 (NI fr)) 39)
  generalize World.alloc (World.alloc W _) _ = W1 at *
  go_upto_region 1 with fail
  rename_i aK
  refine wp_region_seq ?_
  refine wpSeq_wp rfl ?_
  unfold Oper.wp execOp
  go_simp
  refine (AW.out W1).mono ?_
  rintro _ W2 ⟨rfl, b2⟩
  replace A1 := A1.below b2
  replace A2 := A2.below b2
  replace b := b.trans (b2.mono b.size)
  clear AW b2
  go_simp
  refine wpSeq_yield (S := fun _ => True) (v := .bool false) (Or.inl ⟨by rfl, fun w' hw' => by go_simp⟩) trivial ?_
  simp only [AP]
  refine wpSeq_nil ?_
  refine (by assumption : ∀ (a : Act) (w : World), _ → _) _ _ ?_
  go_upto_region 3 with fail
  rename_i aK
  refine wp_region_S (S := fun _ => True) (by kernel_rfl) ?_
  refine wpAnyS_takeL 0 (v := .int .u8 (s : Int)) rfl (by kernel_rfl) (by kernel_rfl) (by kernel_rfl) (fun _ _ _ H => H) (yieldsIf_move rfl _ rfl (.int .u8 (s : Int)) rfl) trivial ?_
  simp only [AP]
  refine wpAnyS_takeL 1 (v := .int .u8 (q : Int)) rfl (by kernel_rfl) (by kernel_rfl) (by kernel_rfl) (fun _ _ _ H => H) (Or.inl ⟨by rfl, fun w' hw' => by (go_simp; try omega)⟩) trivial ?_
  simp only [AP]
  refine wpAnyS_takeL 2 (v := .int .i64 (q : Int)) rfl (by kernel_rfl) (by kernel_rfl) (by kernel_rfl) (fun _ _ _ H => H) (Or.inl ⟨by rfl, fun w' hw' => by go_simp⟩) trivial ?_
  simp only [AP]
  refine wpAnyS_takeL 3 (v := .slice (some ⟨W.heap.size, 0, none⟩) 8 8) rfl (by kernel_rfl) (by kernel_rfl) (by kernel_rfl) (fun _ _ _ H => H) (Or.inl ⟨by rfl, fun w' hw' => by go_simp⟩) trivial ?_
  simp only [AP]
  refine wpAnyS_takeL 4 (v := .slice (some ⟨W.heap.size + 1, 0, none⟩) 8 8) rfl (by kernel_rfl) (by kernel_rfl) (by kernel_rfl) (fun _ _ _ H => H) (Or.inl ⟨by rfl, fun w' hw' => by go_simp⟩) trivial ?_
  simp only [AP]
  refine wpAnyS_takeL 5 (v := .agg #[.int .i64 (q : Int), .slice (some ⟨W.heap.size, 0, none⟩) 8 8, .slice (some ⟨W.heap.size + 1, 0, none⟩) 8 8]) rfl (by kernel_rfl) (by kernel_rfl) (by kernel_rfl) (fun _ _ _ H => H) (Or.inl ⟨by rfl, fun w' hw' => by go_simp⟩) trivial ?_
  simp only [AP]
  refine gstep 6 rfl rfl (by kernel_rfl) ?_
  unfold Oper.wp execOp
  go_simp
  refine gstep 7 rfl rfl (by kernel_rfl) (wp_store_row 31 _ _ rfl W2.heap.size #[.int .i64 (q : Int), .slice (some ⟨W.heap.size, 0, none⟩) 8 8, .slice (some ⟨W.heap.size + 1, 0, none⟩) 8 8] rfl rfl _ _ (Blk.new _ _ _) info_hd rfl (hd_one _ _ _ _ _ _ _) ⟨trivial, ?_⟩)
  simp only [Act.put]
  refine wpAnyS_done (by kernel_rfl) ?_ _
  refine (by assumption : ∀ (a : Act) (w : World), _ → _) _ _ ?_
  have hb := below_setRow (below_drew ((Below.refl W2.heap.size W2).alloc (Nat.le_refl _) (.cells #[.int .i64 0, .slice none 0 0, .slice none 0 0] 31))) (Nat.le_refl _) #[.int .i64 (q : Int), .slice (some ⟨W.heap.size, 0, none⟩) 8 8, .slice (some ⟨W.heap.size + 1, 0, none⟩) 8 8]
  have K := ((Blk.new W2 31 #[.int .i64 0, .slice none 0 0, .slice none 0 0]).drew).row #[.int .i64 (q : Int), .slice (some ⟨W.heap.size, 0, none⟩) 8 8, .slice (some ⟨W.heap.size + 1, 0, none⟩) 8 8]
  have zz : W2.heap.size < (((W2.alloc (.cells #[.int .i64 0, .slice none 0 0, .slice none 0 0] 31)).drew).setRow W2.heap.size #[.int .i64 (q : Int), .slice (some ⟨W.heap.size, 0, none⟩) 8 8, .slice (some ⟨W.heap.size + 1, 0, none⟩) 8 8]).heap.size := by rw [setRow_size]; show W2.heap.size < (W2.alloc _).heap.size; rw [size_alloc1]; exact Nat.lt_succ_self _
  generalize World.setRow _ _ _ = W4 at *
  replace K : Blk W4 W2.heap.size 31 #[.int .i64 (q : Int), .slice (some ⟨W.heap.size, 0, none⟩) 8 8, .slice (some ⟨W.heap.size + 1, 0, none⟩) 8 8] := K
  replace A1 := A1.below hb
  replace A2 := A2.below hb
  replace b := Lib.hid (b.trans (hb.mono b.size))
  have rg := blk_range K
  have SA1 := Lib.hid (SB.of_ba' A1 LL.out.1.symm (by rw [LL.out.1]; exact Nat.le_refl 8))
  have SA2 := Lib.hid (SB.of_ba' A2 LL.out.2.symm (by rw [LL.out.2]; exact Nat.le_refl 8))
  clear hb A1 A2
  go_upto_region 4 with fail
  rename_i aK
  refine wp_region_seq ?_
  refine wpSeq_yield (S := fun w' => w' = W4) (show YieldsIf _ _ _ _ (.agg #[.int .i64 (q : Int), .slice (some ⟨W.heap.size, 0, none⟩) 8 8, .slice (some ⟨W.heap.size + 1, 0, none⟩) 8 8]) _ from yieldsIf_load_mid (S := fun w' => w' = W4) rfl 31 _ rfl W2.heap.size 0 rfl [.int .i64 (q : Int), .slice (some ⟨W.heap.size, 0, none⟩) 8 8, .slice (some ⟨W.heap.size + 1, 0, none⟩) 8 8] _ (fun _ h => h ▸ rg) Try.underlying31 rfl info_hd) rfl ?_
  simp only [AP]
  refine wpSeq_yield (S := fun _ => True) (yieldsIf_move rfl _ rfl (.int .u8 (z : Int)) rfl) trivial ?_
  simp only [AP]
  refine wpSeq_yield (S := fun _ => True) (v := .int .i64 (z : Int)) (Or.inl ⟨by rfl, fun w' hw' => by go_simp⟩) trivial ?_
  simp only [AP]
  refine wpSeq_wp rfl ?_
  unfold Oper.wp execOp
  go_simp
  refine (C1.out _ _ W4 SA1.out SA2.out).mono ?_
  rintro _ w5 ⟨v5, rfl, O5, b5⟩
  obtain ⟨p5, c5, hv⟩ := O5.shape
  subst hv
  rw [HL.out]
  replace b := Lib.hid (b.out.trans (b5.mono b.out.size))
  have s5 := O5.sb
  rw [HL.out] at s5
  have l5 : L ≤ c5 := by have := s5.len; have := HL.out; omega
  clear O5 b5 C1 SA1 SA2 K rg
  go_simp
  refine wpSeq_yield (S := fun _ => True) (yieldsIf_move rfl _ rfl (.tuple #[.slice p5 L c5, .int .i64 0]) rfl) trivial ?_
  simp only [AP]
  refine wpSeq_yield (S := fun _ => True) (v := .slice p5 L c5) (Or.inl ⟨by rfl, fun w' hw' => by go_simp⟩) trivial ?_
  simp only [AP]
  refine wpSeq_yield (S := fun _ => True) (v := .int .i64 0) (Or.inl ⟨by rfl, fun w' hw' => by go_simp⟩) trivial ?_
  simp only [AP]
  refine wpSeq_yield (S := fun _ => True) (yieldsIf_assign rfl _ rfl (.slice p5 L c5) rfl) trivial ?_
  simp only [AP]
  refine wpSeq_yield (S := fun _ => True) (yieldsIf_assign rfl _ rfl (.int .i64 0) rfl) trivial ?_
  simp only [AP]
  refine wpSeq_nil ?_
  refine (by assumption : ∀ (a : Act) (w : World), _ → _) _ _ ?_
  go_upto_region 5 with fail
  rename_i aK
  refine wp_region_seq ?_
  refine wpSeq_yield (S := fun _ => True) (yieldsIf_move rfl _ rfl (.int .u8 (c : Int)) rfl) trivial ?_
  simp only [AP]
  refine wpSeq_yield (S := fun _ => True) (v := .int .i64 (c : Int)) (Or.inl ⟨by rfl, fun w' hw' => by go_simp⟩) trivial ?_
  simp only [AP]
  refine wpSeq_yield (S := fun _ => True) (yieldsIf_move rfl _ rfl (.slice p5 L c5) rfl) trivial ?_
  simp only [AP]
  refine wpSeq_yield (S := fun _ => True) (v := .int .i64 (L : Int)) (Or.inl ⟨by rfl, fun w' hw' => by go_simp⟩) trivial ?_
  simp only [AP]
  refine wpSeq_yield (S := fun _ => True) (v := .int .i64 (i : Int)) (Or.inl ⟨by rfl, fun w' hw' => by (go_simp; try omega)⟩) trivial ?_
  simp only [AP]
  refine wpSeq_yield (S := fun _ => True) (yieldsIf_assign rfl _ rfl (.int .i64 (i : Int)) rfl) trivial ?_
  simp only [AP]
  refine wpSeq_nil ?_
  refine (by assumption : ∀ (a : Act) (w : World), _ → _) _ _ ?_
  go_upto_region 6 with fail
  rename_i aK
  refine wp_region_seq ?_
  refine wpSeq_yield (S := fun _ => True) (yieldsIf_move rfl _ rfl (.slice p5 L c5) rfl) trivial ?_
  simp only [AP]
  refine wpSeq_yield (S := fun _ => True) (yieldsIf_move rfl _ rfl (.int .i64 (i : Int)) rfl) trivial ?_
  simp only [AP]
  refine wpSeq_yield (S := fun _ => True) (yieldsIf_head rfl _ _ rfl p5 L c5 i rfl rfl (by omega)) trivial ?_
  simp only [AP]
  refine wpSeq_wp rfl ?_
  unfold Oper.wp execOp
  go_simp
  refine (C2.out p5 i c5 (by omega) w5 (s5.head i (by omega))).mono ?_
  rintro _ w6 ⟨vt, vf, rfl, s7, s8, b6⟩
  obtain ⟨p7, c7, rfl⟩ := s7.shape
  obtain ⟨p8, c8, rfl⟩ := s8.shape
  replace b := Lib.hid (b.out.trans (b6.mono b.out.size))
  replace s7 : SB w6 (.slice p7 0 c7) [] := s7
  replace s8 : SB w6 (.slice p8 0 c8) [] := s8
  clear s5 b6 C2 l5
  skip
  go_simp
  refine wpSeq_yield (S := fun _ => True) (yieldsIf_move rfl _ rfl (.tuple #[.agg #[.int .i64 0, .slice p7 0 c7, .slice p8 0 c8], .int .i64 0, .int .i64 0, .int .i64 3]) rfl) trivial ?_
  simp only [AP]
  refine wpSeq_yield (S := fun _ => True) (v := .agg #[.int .i64 0, .slice p7 0 c7, .slice p8 0 c8]) (Or.inl ⟨by rfl, fun w' hw' => by go_simp⟩) trivial ?_
  simp only [AP]
  refine wpSeq_yield (S := fun _ => True) (v := .int .i64 0) (Or.inl ⟨by rfl, fun w' hw' => by go_simp⟩) trivial ?_
  simp only [AP]
  refine wpSeq_yield (S := fun _ => True) (v := .int .i64 0) (Or.inl ⟨by rfl, fun w' hw' => by go_simp⟩) trivial ?_
  simp only [AP]
  refine wpSeq_yield (S := fun _ => True) (v := .int .i64 3) (Or.inl ⟨by rfl, fun w' hw' => by go_simp⟩) trivial ?_
  simp only [AP]
  refine wpSeq_alloc 31 #[.int .i64 0, .slice none 0 0, .slice none 0 0] rfl (fun W => by go_simp) ?_
  simp only [AP]
  refine wpSeq_store_row rfl 31 _ _ rfl (w6.heap.size) #[.int .i64 0, .slice p7 0 c7, .slice p8 0 c8] rfl rfl _ _ (Blk.new _ _ _) info_hd rfl (hd_one _ _ _ _ _ _ _) ?_
  try simp only [Act.put]
  refine wpSeq_yield (S := fun _ => True) (yieldsIf_assign rfl _ rfl (.int .i64 0) rfl) trivial ?_
  simp only [AP]
  refine wpSeq_yield (S := fun _ => True) (yieldsIf_assign rfl _ rfl (.int .i64 0) rfl) trivial ?_
  simp only [AP]
  refine wpSeq_yield (S := fun _ => True) (yieldsIf_assign rfl _ rfl (.int .i64 3) rfl) trivial ?_
  simp only [AP]
  refine wpSeq_nil ?_
  refine (by assumption : ∀ (a : Act) (w : World), _ → _) _ _ ?_
  have hb := below_setRow ((Below.refl w6.heap.size w6).alloc (Nat.le_refl _) (.cells #[.int .i64 0, .slice none 0 0, .slice none 0 0] 31)) (Nat.le_refl _) #[.int .i64 0, .slice p7 0 c7, .slice p8 0 c8]
  have K := (Blk.new w6 31 #[.int .i64 0, .slice none 0 0, .slice none 0 0]).row #[.int .i64 0, .slice p7 0 c7, .slice p8 0 c8]
  generalize World.setRow _ _ _ = W8 at *
  replace K : Blk W8 w6.heap.size 31 #[.int .i64 0, .slice p7 0 c7, .slice p8 0 c8] := K
  replace b := Lib.hid (b.out.trans (hb.mono b.out.size))
  have CS := Lib.hid (same_c 0 [] [] _ _ _ _ W8 (s7.below hb) (s8.below hb) (SB.nil W8 none 0) (SB.nil W8 none 0))
  have rg := blk_range K
  clear hb s7 s8 K
  go_upto_region 7 with fail
  rename_i aK
  refine wp_region_seq ?_
  refine wpSeq_yield (S := fun _ => True) (yieldsIf_move rfl _ rfl (.int .i64 0) rfl) trivial ?_
  simp only [AP]
  refine wpSeq_yield (S := fun _ => True) (v := .bool true) (Or.inl ⟨by rfl, fun w' hw' => by go_simp⟩) trivial ?_
  simp only [AP]
  refine wpSeq_yield (S := fun _ => True) (yieldsIf_move rfl _ rfl (.bool true) rfl) trivial ?_
  simp only [AP]
  refine wpSeq_yield (S := fun _ => True) (yieldsIf_move rfl _ rfl (.int .i64 3) rfl) trivial ?_
  simp only [AP]
  refine wpSeq_yield (S := fun _ => True) (v := .bool true) (Or.inl ⟨by rfl, fun w' hw' => by go_simp⟩) trivial ?_
  simp only [AP]
  refine wpSeq_yield (S := fun _ => True) (yieldsIf_pick rfl _ _ _ rfl true rfl (.bool true) rfl) trivial ?_
  simp only [AP]
  refine wpSeq_yield (S := fun _ => True) (yieldsIf_move rfl _ rfl (.bool true) rfl) trivial ?_
  simp only [AP]
  refine wpSeq_yield (S := fun w' => w' = W8) (show YieldsIf _ _ _ _ (.agg #[.int .i64 0, .slice p7 0 c7, .slice p8 0 c8]) _ from yieldsIf_load_mid (S := fun w' => w' = W8) rfl 31 _ rfl w6.heap.size 0 rfl [.int .i64 0, .slice p7 0 c7, .slice p8 0 c8] _ (fun _ h => h ▸ rg) Try.underlying31 rfl info_hd) rfl ?_
  simp only [AP]
  refine wpSeq_yield (S := fun _ => True) (v := .agg #[.int .i64 0, .slice none 0 0, .slice none 0 0]) (Or.inl ⟨by rfl, fun w' hw' => by go_simp⟩) trivial ?_
  simp only [AP]
  refine wpSeq_wp rfl ?_
  unfold Oper.wp execOp
  go_simp
  refine CS.out.mono ?_
  rintro _ w9 ⟨rfl, b9⟩
  replace b := Lib.hid (b.out.trans (b9.mono b.out.size))
  clear b9 CS rg
  go_simp
  refine wpSeq_yield (S := fun _ => True) (yieldsIf_pick rfl _ _ _ rfl true rfl (.bool true) rfl) trivial ?_
  simp only [AP]
  refine wpSeq_yield (S := fun _ => True) (yieldsIf_move rfl _ rfl (.bool true) rfl) trivial ?_
  simp only [AP]
  refine wpSeq_yield (S := fun _ => True) (yieldsIf_move rfl _ rfl (.int .i64 0) rfl) trivial ?_
  simp only [AP]
  refine wpSeq_yield (S := fun _ => True) (v := .bool true) (Or.inl ⟨by rfl, fun w' hw' => by go_simp⟩) trivial ?_
  simp only [AP]
  refine wpSeq_yield (S := fun _ => True) (yieldsIf_pick rfl _ _ _ rfl true rfl (.bool true) rfl) trivial ?_
  simp only [AP]
  refine wpSeq_yield (S := fun _ => True) (yieldsIf_move rfl _ rfl (.bool true) rfl) trivial ?_
  simp only [AP]
  refine wpSeq_yield (S := fun _ => True) (yieldsIf_move rfl _ rfl (.int .i64 0) rfl) trivial ?_
  simp only [AP]
  refine wpSeq_yield (S := fun _ => True) (v := .bool true) (Or.inl ⟨by rfl, fun w' hw' => by go_simp⟩) trivial ?_
  simp only [AP]
  refine wpSeq_yield (S := fun _ => True) (yieldsIf_pick rfl _ _ _ rfl true rfl (.bool true) rfl) trivial ?_
  simp only [AP]
  refine wpSeq_yield (S := fun _ => True) (yieldsIf_assign rfl _ rfl (.bool true) rfl) trivial ?_
  simp only [AP]
  refine wpSeq_nil ?_
  refine (by assumption : ∀ (a : Act) (w : World), _ → _) _ _ ?_
  go_wp2
  go_ret
  exact ⟨rfl, b.out⟩
end Go.Proofs.Ytfhiflakglhneaa
