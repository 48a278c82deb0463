/- The law FrameEncodes, by contract (printed by gen11/uu.py). -/
import Derived.Test.YtdlhclakdllogaaUt
import Derived.Test.YtdlhclakdllogaaUr
namespace Go.Proofs.Ytdlhclakdllogaa
open Go.RowKit

set_option maxHeartbeats 4000000 in
set_option maxRecDepth 100000 in
theorem fencodes_c (EC : EncC) (AC : AskC) (f : Fr) (hf : f.Ok) (vd va : Value) (W : World) (hd : FD W f vd va) :
    Calls Try.prog 3 #[frV f vd va] W fun e w' => e = .returned (.bool true) ∧ Below W.heap.size W w' := by
  have AW := Lib.hid (fawake_c EC)
  have GC := Lib.hid (fun w (h : FD w f vd va) => great_c [f] (some ⟨w.heap.size, 0, none⟩) 1 1 (by decide) _ (fs_one w f vd va h))
  have G1 := Lib.hid (great_one (f := f))
  have C1 := Lib.hid (fun h1 h2 => EC f hf h1 h2 vd va)
  have C2 := Lib.hid (fun h1 h2 => rframe_c f hf h1 h2 vd va)
  have C3 := Lib.hid (AC f hf vd va)
  have C4 := Lib.hid (rasks_c f.kind)
  have HD := Lib.hid hd
  clear EC AC hf hd
  cases hg : greatL [f] with
  | true =>
    rw [hg] at GC
    clear G1 C1 C2 C3 C4 hg
    obtain ⟨k, i, o, n, c, fn, d, a⟩ := f
    show Calls Try.prog 3 #[.agg #[.int .u64 (k : Int), .int .u64 (i : Int), .int .u64 (o : Int), .int .u64 (n : Int), .int .u64 (c : Int), .bool fn, vd, va]] W _
    go_enter Try.func3, Try.ntmps3
    go_upto_region 0 with fail
    rename_i aK
    refine wp_region_seq ?_
    refine wpSeq_wp rfl ?_
    unfold Oper.wp execOp
    go_simp
    refine wpSeq_yield (S := fun _ => True) (yieldsIf_assign rfl _ rfl (.bool false) rfl) trivial ?_
    simp only [AP]
    refine wpSeq_nil ?_
    refine aK _ _ ?_
    clear aK
    have K := Blk.new W 26 #[.int .u64 (k : Int), .int .u64 (i : Int), .int .u64 (o : Int), .int .u64 (n : Int), .int .u64 (c : Int), .bool fn, vd, va]
    have b := (Below.refl W.heap.size W).alloc (Nat.le_refl _) (.cells #[.int .u64 (k : Int), .int .u64 (i : Int), .int .u64 (o : Int), .int .u64 (n : Int), .int .u64 (c : Int), .bool fn, vd, va] 26)
    generalize World.alloc W _ = W2 at *
    replace K := Lib.hid K
    go_wp2_with fail
    refine (AW.out _).mono ?_
    rintro _ w1 ⟨rfl, b1⟩
    replace K := Lib.hid (K.out.below' b1)
    replace b := b.trans (b1.mono b.size)
    clear b1 AW
    have rg : w1.rangeAt W.heap.size 0 [.int .u64 (k : Int), .int .u64 (i : Int), .int .u64 (o : Int), .int .u64 (n : Int), .int .u64 (c : Int), .bool fn, vd, va] := blk_range K.out
    go_upto_region 3 with fail
    rename_i aK
    refine wp_region_seq ?_
    refine wpSeq_yield (S := fun w' => w' = w1) (show YieldsIf _ _ _ _ (.agg #[.int .u64 (k : Int), .int .u64 (i : Int), .int .u64 (o : Int), .int .u64 (n : Int), .int .u64 (c : Int), .bool fn, vd, va]) _ from yieldsIf_load_mid (S := fun w' => w' = w1) rfl 26 _ rfl W.heap.size 0 rfl [.int .u64 (k : Int), .int .u64 (i : Int), .int .u64 (o : Int), .int .u64 (n : Int), .int .u64 (c : Int), .bool fn, vd, va] _ (fun _ h => h ▸ rg) Try.underlying26 rfl info_fr) rfl ?_
    simp only [AP]
    refine wpSeq_wp rfl ?_
    unfold Oper.wp execOp
    go_simp
    refine wpSeq_wp rfl ?_
    unfold Oper.wp execOp
    go_simp
    refine (GC.out w1 (HD.out.below b)).mono ?_
    rintro _ w3 ⟨rfl, b3⟩
    have b2 := (Below.refl w1.heap.size w1).alloc (Nat.le_refl _) (.cells #[.int .u64 (k : Int), .int .u64 (i : Int), .int .u64 (o : Int), .int .u64 (n : Int), .int .u64 (c : Int), .bool fn, vd, va] 26)
    replace b3 := b2.trans (b3.mono b2.size)
    replace K := Lib.hid (K.out.below' b3)
    replace b := b.trans (b3.mono b.size)
    clear b3 b2 rg GC
    go_simp
    refine wpSeq_nil ?_
    refine aK _ _ ?_
    clear aK
    go_wp2
    go_ret
    exact ⟨rfl, b⟩
  | false =>
    rw [hg] at GC
    have B1 := (G1.out hg).1
    have B2 := (G1.out hg).2
    clear G1 hg
    obtain ⟨kb, hkb⟩ : ∃ kb, askK f.kind = kb := ⟨_, rfl⟩
    rw [hkb] at C3 C4
    obtain ⟨ec, hec⟩ : ∃ ec, encF f = ec := ⟨_, rfl⟩
    have CE := Lib.hid (fun w h => C1.out B1 B2 w h)
    have CF := Lib.hid (fun w h => C2.out B1 B2 w h)
    unfold EncPost at CE CF
    rw [hec] at CE CF
    obtain ⟨code, bs⟩ := ec
    clear C1 C2 B1 B2 hkb hec
    obtain ⟨k, i, o, n, c, fn, d, a⟩ := f
    dsimp only at C4 CE CF
    show Calls Try.prog 3 #[.agg #[.int .u64 (k : Int), .int .u64 (i : Int), .int .u64 (o : Int), .int .u64 (n : Int), .int .u64 (c : Int), .bool fn, vd, va]] W _
    go_enter Try.func3, Try.ntmps3
    go_upto_region 0 with fail
    rename_i aK
    refine wp_region_seq ?_
    refine wpSeq_wp rfl ?_
    unfold Oper.wp execOp
    go_simp
    refine wpSeq_yield (S := fun _ => True) (yieldsIf_assign rfl _ rfl (.bool false) rfl) trivial ?_
    simp only [AP]
    refine wpSeq_nil ?_
    refine aK _ _ ?_
    clear aK
    have K := Blk.new W 26 #[.int .u64 (k : Int), .int .u64 (i : Int), .int .u64 (o : Int), .int .u64 (n : Int), .int .u64 (c : Int), .bool fn, vd, va]
    have b := (Below.refl W.heap.size W).alloc (Nat.le_refl _) (.cells #[.int .u64 (k : Int), .int .u64 (i : Int), .int .u64 (o : Int), .int .u64 (n : Int), .int .u64 (c : Int), .bool fn, vd, va] 26)
    generalize World.alloc W _ = W2 at *
    replace K := Lib.hid K
    go_wp2_with fail
    refine (AW.out _).mono ?_
    rintro _ w1 ⟨rfl, b1⟩
    replace K := Lib.hid (K.out.below' b1)
    replace b := b.trans (b1.mono b.size)
    clear b1 AW
    have rg : w1.rangeAt W.heap.size 0 [.int .u64 (k : Int), .int .u64 (i : Int), .int .u64 (o : Int), .int .u64 (n : Int), .int .u64 (c : Int), .bool fn, vd, va] := blk_range K.out
    go_upto_region 3 with fail
    rename_i aK
    refine wp_region_seq ?_
    refine wpSeq_yield (S := fun w' => w' = w1) (show YieldsIf _ _ _ _ (.agg #[.int .u64 (k : Int), .int .u64 (i : Int), .int .u64 (o : Int), .int .u64 (n : Int), .int .u64 (c : Int), .bool fn, vd, va]) _ from yieldsIf_load_mid (S := fun w' => w' = w1) rfl 26 _ rfl W.heap.size 0 rfl [.int .u64 (k : Int), .int .u64 (i : Int), .int .u64 (o : Int), .int .u64 (n : Int), .int .u64 (c : Int), .bool fn, vd, va] _ (fun _ h => h ▸ rg) Try.underlying26 rfl info_fr) rfl ?_
    simp only [AP]
    refine wpSeq_wp rfl ?_
    unfold Oper.wp execOp
    go_simp
    refine wpSeq_wp rfl ?_
    unfold Oper.wp execOp
    go_simp
    refine (GC.out w1 (HD.out.below b)).mono ?_
    rintro _ w3 ⟨rfl, b3⟩
    have b2 := (Below.refl w1.heap.size w1).alloc (Nat.le_refl _) (.cells #[.int .u64 (k : Int), .int .u64 (i : Int), .int .u64 (o : Int), .int .u64 (n : Int), .int .u64 (c : Int), .bool fn, vd, va] 26)
    replace b3 := b2.trans (b3.mono b2.size)
    replace K := Lib.hid (K.out.below' b3)
    replace b := b.trans (b3.mono b.size)
    clear b3 b2 rg GC
    go_simp
    refine wpSeq_nil ?_
    refine aK _ _ ?_
    clear aK
    have rg5 : w3.rangeAt W.heap.size 0 [.int .u64 (k : Int), .int .u64 (i : Int), .int .u64 (o : Int), .int .u64 (n : Int), .int .u64 (c : Int), .bool fn, vd, va] := blk_range K.out
    go_upto_region 5 with fail
    rename_i aK
    refine wp_region_seq ?_
    refine wpSeq_yield (S := fun w' => w' = w3) (show YieldsIf _ _ _ _ (.agg #[.int .u64 (k : Int), .int .u64 (i : Int), .int .u64 (o : Int), .int .u64 (n : Int), .int .u64 (c : Int), .bool fn, vd, va]) _ from yieldsIf_load_mid (S := fun w' => w' = w3) rfl 26 _ rfl W.heap.size 0 rfl [.int .u64 (k : Int), .int .u64 (i : Int), .int .u64 (o : Int), .int .u64 (n : Int), .int .u64 (c : Int), .bool fn, vd, va] _ (fun _ h => h ▸ rg5) Try.underlying26 rfl info_fr) rfl ?_
    simp only [AP]
    refine wpSeq_wp rfl ?_
    unfold Oper.wp execOp
    go_simp
    refine (CE.out _ (HD.out.below b)).mono ?_
    rintro _ w5 ⟨v5, rfl, O, b5⟩
    replace K := Lib.hid (K.out.below' b5)
    replace b := b.trans (b5.mono b.size)
    have s5 := O.sb
    go_simp
    clear O b5 rg5 CE
    refine wpSeq_yield (S := fun _ => True) (yieldsIf_move rfl _ rfl (.tuple #[v5, .int .i64 (code : Int)]) rfl) trivial ?_
    simp only [AP]
    refine wpSeq_yield (S := fun _ => True) (v := v5) (Or.inl ⟨by rfl, fun w' hw' => by go_simp⟩) trivial ?_
    simp only [AP]
    refine wpSeq_yield (S := fun _ => True) (v := .int .i64 (code : Int)) (Or.inl ⟨by rfl, fun w' hw' => by go_simp⟩) trivial ?_
    simp only [AP]
    refine wpSeq_yield (S := fun _ => True) (yieldsIf_assign rfl _ rfl (v5) rfl) trivial ?_
    simp only [AP]
    refine wpSeq_yield (S := fun _ => True) (yieldsIf_assign rfl _ rfl (.int .i64 (code : Int)) rfl) trivial ?_
    simp only [AP]
    refine wpSeq_nil ?_
    refine aK _ _ ?_
    clear aK
    have rg6 : w5.rangeAt W.heap.size 0 [.int .u64 (k : Int), .int .u64 (i : Int), .int .u64 (o : Int), .int .u64 (n : Int), .int .u64 (c : Int), .bool fn, vd, va] := blk_range K.out
    go_upto_region 6 with fail
    rename_i aK
    refine wp_region_seq ?_
    refine wpSeq_yield (S := fun w' => w' = w5) (show YieldsIf _ _ _ _ (.agg #[.int .u64 (k : Int), .int .u64 (i : Int), .int .u64 (o : Int), .int .u64 (n : Int), .int .u64 (c : Int), .bool fn, vd, va]) _ from yieldsIf_load_mid (S := fun w' => w' = w5) rfl 26 _ rfl W.heap.size 0 rfl [.int .u64 (k : Int), .int .u64 (i : Int), .int .u64 (o : Int), .int .u64 (n : Int), .int .u64 (c : Int), .bool fn, vd, va] _ (fun _ h => h ▸ rg6) Try.underlying26 rfl info_fr) rfl ?_
    simp only [AP]
    refine wpSeq_wp rfl ?_
    unfold Oper.wp execOp
    go_simp
    refine (CF.out _ (HD.out.below b)).mono ?_
    rintro _ w6 ⟨v6, rfl, O, b6⟩
    replace K := Lib.hid (K.out.below' b6)
    replace b := b.trans (b6.mono b.size)
    have s6 := O.sb
    go_simp
    have s5 := s5.below b6
    clear O b6 rg6 CF
    refine wpSeq_yield (S := fun _ => True) (yieldsIf_move rfl _ rfl (.tuple #[v6, .int .i64 (code : Int)]) rfl) trivial ?_
    simp only [AP]
    refine wpSeq_yield (S := fun _ => True) (v := v6) (Or.inl ⟨by rfl, fun w' hw' => by go_simp⟩) trivial ?_
    simp only [AP]
    refine wpSeq_yield (S := fun _ => True) (v := .int .i64 (code : Int)) (Or.inl ⟨by rfl, fun w' hw' => by go_simp⟩) trivial ?_
    simp only [AP]
    refine wpSeq_yield (S := fun _ => True) (yieldsIf_assign rfl _ rfl (v6) rfl) trivial ?_
    simp only [AP]
    refine wpSeq_yield (S := fun _ => True) (yieldsIf_assign rfl _ rfl (.int .i64 (code : Int)) rfl) trivial ?_
    simp only [AP]
    refine wpSeq_nil ?_
    refine aK _ _ ?_
    clear aK
    have K7 := K.out.drew
    replace b := below_drew b
    have t5 := s5.drew
    have t6 := s6.drew
    have FD7 := HD.out.below b
    have hS := Below.refl w6.drew.heap.size w6.drew
    have rg7 := blk_range (cs := [.int .u64 (k : Int), .int .u64 (i : Int), .int .u64 (o : Int), .int .u64 (n : Int), .int .u64 (c : Int), .bool fn, vd, va]) K7
    have k0 : w6.drew.cell? ⟨W.heap.size, 0, none⟩ = some (.int .u64 (k : Int)) := K7.cell 0
    have kl := K7.lt
    clear K s5 s6 HD
    go_upto_region 7 with fail
    rename_i aK
    refine wp_region_S (S := fun w' => Below w6.drew.heap.size w6.drew w') (by kernel_rfl) ?_
    refine wpAnyS_takeL 0 (v := .int .i64 (code : Int)) rfl (by kernel_rfl) (by kernel_rfl) (by kernel_rfl) (fun _ _ _ H => H) (yieldsIf_move rfl _ rfl (.int .i64 (code : Int)) rfl) hS ?_
    simp only [AP]
    refine wpAnyS_takeL 1 (v := .int .i64 (code : Int)) rfl (by kernel_rfl) (by kernel_rfl) (by kernel_rfl) (fun _ _ _ H => H) (yieldsIf_move rfl _ rfl (.int .i64 (code : Int)) rfl) hS ?_
    simp only [AP]
    refine wpAnyS_takeL 2 (v := .bool true) rfl (by kernel_rfl) (by kernel_rfl) (by kernel_rfl) (fun _ _ _ H => H) (Or.inl ⟨by rfl, fun w' hw' => by go_simp⟩) hS ?_
    simp only [AP]
    refine wpAnyS_takeL 3 (v := .bool true) rfl (by kernel_rfl) (by kernel_rfl) (by kernel_rfl) (fun _ _ _ H => H) (yieldsIf_move rfl _ rfl (.bool true) rfl) hS ?_
    simp only [AP]
    refine wpAnyS_takeL 4 (v := v5) rfl (by kernel_rfl) (by kernel_rfl) (by kernel_rfl) (fun _ _ _ H => H) (yieldsIf_move rfl _ rfl (v5) rfl) hS ?_
    simp only [AP]
    refine wpAnyS_takeL 5 (v := .string (strB bs)) rfl (by kernel_rfl) (by kernel_rfl) (by kernel_rfl) (fun _ _ _ H => H) (yieldsIf_conv rfl _ rfl (v5) rfl bs (fun w' h => t5.below h)) hS ?_
    simp only [AP]
    refine wpAnyS_takeL 6 (v := v6) rfl (by kernel_rfl) (by kernel_rfl) (by kernel_rfl) (fun _ _ _ H => H) (yieldsIf_move rfl _ rfl (v6) rfl) hS ?_
    simp only [AP]
    refine wpAnyS_takeL 7 (v := .string (strB bs)) rfl (by kernel_rfl) (by kernel_rfl) (by kernel_rfl) (fun _ _ _ H => H) (yieldsIf_conv rfl _ rfl (v6) rfl bs (fun w' h => t6.below h)) hS ?_
    simp only [AP]
    refine wpAnyS_takeL 8 (v := .bool true) rfl (by kernel_rfl) (by kernel_rfl) (by kernel_rfl) (fun _ _ _ H => H) (yieldsIf_strB rfl _ _ rfl bs bs rfl rfl rfl) hS ?_
    simp only [AP]
    refine wpAnyS_takeL 9 (v := .bool true) rfl (by kernel_rfl) (by kernel_rfl) (by kernel_rfl) (fun _ _ _ H => H) (yieldsIf_pick rfl _ _ _ rfl true rfl (.bool true) rfl) hS ?_
    simp only [AP]
    refine wpAnyS_takeL 10 (v := .bool true) rfl (by kernel_rfl) (by kernel_rfl) (by kernel_rfl) (fun _ _ _ H => H) (yieldsIf_move rfl _ rfl (.bool true) rfl) hS ?_
    simp only [AP]
    refine wpAnyS_takeL 11 (v := .agg #[.int .u64 (k : Int), .int .u64 (i : Int), .int .u64 (o : Int), .int .u64 (n : Int), .int .u64 (c : Int), .bool fn, vd, va]) rfl (by kernel_rfl) (by kernel_rfl) (by kernel_rfl) (fun _ _ _ H => H) (show YieldsIf _ _ _ _ (.agg #[.int .u64 (k : Int), .int .u64 (i : Int), .int .u64 (o : Int), .int .u64 (n : Int), .int .u64 (c : Int), .bool fn, vd, va]) _ from yieldsIf_load_mid rfl 26 _ rfl W.heap.size 0 rfl [.int .u64 (k : Int), .int .u64 (i : Int), .int .u64 (o : Int), .int .u64 (n : Int), .int .u64 (c : Int), .bool fn, vd, va] _ (fun _ h => rangeAt_below rg7 h kl) Try.underlying26 rfl info_fr) hS ?_
    simp only [AP]
    refine wpAnyS_takeL 13 (v := .pointer (some ⟨W.heap.size, 0, none⟩)) rfl (by kernel_rfl) (by kernel_rfl) (by kernel_rfl) (fun _ _ _ H => H) (Or.inl ⟨by rfl, fun w' hw' => by go_simp⟩) hS ?_
    simp only [AP]
    refine wpAnyS_takeL 14 (v := .int .u64 (k : Int)) rfl (by kernel_rfl) (by kernel_rfl) (by kernel_rfl) (fun _ _ _ H => H) (Or.inl ⟨by rfl, fun w' hw' => by (have cc := (hw'.cell (p := ⟨W.heap.size, 0, none⟩) kl).trans k0; go_simp)⟩) hS ?_
    simp only [AP]
    refine gstep 12 rfl rfl (by kernel_rfl) ?_
    unfold Oper.wp execOp
    go_simp
    refine (C3.out _ FD7).mono ?_
    rintro _ w8 ⟨rfl, b8⟩
    refine ⟨b8, ?_⟩
    refine gstep 15 rfl rfl (by kernel_rfl) ?_
    unfold Oper.wp execOp
    go_simp
    refine (C4.out _).mono ?_
    rintro _ w9 ⟨rfl, hw⟩
    subst w9
    refine ⟨b8, ?_⟩
    replace b := b.trans (b8.mono b.size)
    clear C3 C4 FD7 K7 t5 t6 rg7 k0 kl hS
    refine wpAnyS_takeL 16 (v := .bool true) rfl (by kernel_rfl) (by kernel_rfl) (by kernel_rfl) (fun _ _ _ H => H) (Or.inl ⟨by rfl, fun w' hw' => by (cases kb <;> go_simp)⟩) b8 ?_
    simp only [AP]
    refine wpAnyS_takeL 17 (v := .bool true) rfl (by kernel_rfl) (by kernel_rfl) (by kernel_rfl) (fun _ _ _ H => H) (yieldsIf_pick rfl _ _ _ rfl true rfl (.bool true) rfl) b8 ?_
    simp only [AP]
    refine wpAnyS_takeL 18 (v := .bool true) rfl (by kernel_rfl) (by kernel_rfl) (by kernel_rfl) (fun _ _ _ H => H) (yieldsIf_assign rfl _ rfl (.bool true) rfl) b8 ?_
    simp only [AP]
    refine wpAnyS_done (by kernel_rfl) ?_ _
    refine aK _ _ ?_
    clear aK b8
    go_wp2
    go_ret
    exact ⟨rfl, b⟩
end Go.Proofs.Ytdlhclakdllogaa
