/- The program's ReadCert (printed by gen14/ek.py). -/
import Derived.Test.YtegbnadnodlalaaDoorE6b0E7a
namespace Go.Proofs.YtegbnadnodlalaaDoor
open Go.RowKit
section
variable {P : Program} {md : Region.Mode} {ops : Array Oper} {Q : Exit → Act → World → Prop} {S S' : World → Prop}
/-- What stands throughout from here on may be more. -/
theorem wpAnyS_more (hS : ∀ w, S' w → S w) : ∀ (fuel : Nat) (listed : Array Bool) (a : Act) (w : World), wpAnyS P md ops Q S' fuel listed a w → wpAnyS P md ops Q S fuel listed a w
  | 0, _, _, _, h => h
  | fuel + 1, _, _, _, h => ⟨h.1, fun i hi => wpOp_mono (fun a' w' h' => ⟨hS _ h'.1, wpAnyS_more hS fuel _ a' w' h'.2⟩) (h.2 i hi)⟩
end
/-- What ReadCert comes to, step by step. -/
structure RC (l : List Nat) (y : Nat) (l1 : List Nat) (c1 c2 : Nat) (T3 T4 T5 : List Nat × List Nat × Nat) (f : Nat) : Prop where
  hy : (tookS 1 l 0).1.getD 0 0 = y
  h1 : (tookS 1 l 0).2.1 = l1
  hc : (tookS 1 l 0).2.2 = c1
  h2 : (if y < 1 ∨ 32 < y then failS c1 2 else c1) = c2
  h3 : tookS y l1 c2 = T3
  h4 : tookS 32 T3.2.1 T3.2.2 = T4
  h5 : tookS 64 T4.2.1 T4.2.2 = T5
  hf' : endS T5.2.1 T5.2.2 = f
theorem RC.mk' (l : List Nat) : ∃ y l1 c1 c2 T3 T4 T5 f, RC l y l1 c1 c2 T3 T4 T5 f := ⟨_, _, _, _, _, _, _, _, ⟨rfl, rfl, rfl, rfl, rfl, rfl, rfl, rfl⟩⟩
theorem RC.is {l : List Nat} {y : Nat} {l1 : List Nat} {c1 c2 : Nat} {T3 T4 T5 : List Nat × List Nat × Nat} {f : Nat} (h : RC l y l1 c1 c2 T3 T4 T5 f) : readC l = if f ≠ 0 then (f, [], z32, z64) else (0, T3.1, T4.1, T5.1) := by
  obtain ⟨hy, h1, hc, h2, h3, h4, h5, hf⟩ := h
  subst hy h1 hc h2 h3 h4 h5 hf
  rfl
theorem RC.hf {l : List Nat} {y : Nat} {l1 : List Nat} {c1 c2 : Nat} {T3 T4 T5 : List Nat × List Nat × Nat} {f : Nat} (h : RC l y l1 c1 c2 T3 T4 T5 f) : finS T5.2.1 T5.2.2 = f := (endS_fin _ _).symm.trans h.hf'
theorem RC.fits {l : List Nat} {y : Nat} {l1 : List Nat} {c1 c2 : Nat} {T3 T4 T5 : List Nat × List Nat × Nat} {f : Nat} (h : RC l y l1 c1 c2 T3 T4 T5 f) : (if 1 ≤ y ∧ y ≤ 32 then c1 else if c1 = 0 then 2 else c1) = c2 := by
  rw [← h.h2]
  unfold failS
  by_cases hh : 1 ≤ y ∧ y ≤ 32
  · rw [if_pos hh]
    exact (if_neg (show ¬ (y < 1 ∨ 32 < y) by omega)).symm
  · rw [if_neg hh]
    exact (if_pos (show y < 1 ∨ 32 < y by omega)).symm
theorem RC.full {l : List Nat} {y : Nat} {l1 : List Nat} {c1 c2 : Nat} {T3 T4 T5 : List Nat × List Nat × Nat} {f : Nat} (h : RC l y l1 c1 c2 T3 T4 T5 f) (h0 : f = 0) : T4.1.length = 32 ∧ T5.1.length = 64 := by
  have a := finS_zero (h.hf.trans h0)
  obtain ⟨b1, b2⟩ := took_zero 64 T4.2.1 T4.2.2 (by rw [h.h5]; exact a)
  obtain ⟨c1, c2⟩ := took_zero 32 T3.2.1 T3.2.2 (by rw [h.h4]; exact b1)
  rw [h.h5] at b2
  rw [h.h4] at c2
  exact ⟨c2, b2⟩
theorem RC.ans {l : List Nat} {y : Nat} {l1 : List Nat} {c1 c2 : Nat} {T3 T4 T5 : List Nat × List Nat × Nat} {f : Nat} (h : RC l y l1 c1 c2 T3 T4 T5 f) (XV : Array Value) (hX : (if f = 0 then cerV (strB T3.1) (padN 32 T4.1) (padN 64 T5.1) else cerV ⟨#[]⟩ z32 z64) = XV) :
    Value.tuple #[.agg XV, .int .i64 (f : Int)] = .tuple #[.agg (cerV (strB (readC l).2.1) (readC l).2.2.1 (readC l).2.2.2), .int .i64 ((readC l).1 : Int)] := by
  rw [h.is, ← hX]
  by_cases f0 : f = 0
  · rw [if_pos f0, if_neg (fun e => e f0), padN_full (h.full f0).1, padN_full (h.full f0).2, f0]
  · rw [if_neg f0, if_pos f0]
    rfl
theorem yieldsIf_cert {ops : Array Oper} {S : World → Prop} {o : Oper} {a : Act} (hgd : Region.wanted o (yielded ops a.tmps) = true) (x y : Operand) (ho : o.op = .build 37 #[(0, x), (1, y)]) (t : ByteArray) (k : List Nat) (lk : k.length = 32) (hx : a.eval x = .string t) (hy : a.eval y = .agg (Iv .u8 (NI k))) : YieldsIf Tryd.prog ops S o (.agg (cerV t k z64)) a := by
  refine Or.inl ⟨hgd, fun w _ => ?_⟩
  simp only [execOp, ho, Sem.run_bind, List.map_toArray, List.map_cons, List.map_nil, hx, hy, run_cert w t k lk, Result.andThen_ok, Sem.run_pure]
theorem cert_fill (t : ByteArray) {k R : List Nat} (lk : k.length = 32) : putV (cerV t k z64) 33 R = cerV t k (padN 64 R) := by
  have e : (cerV t k z64).toList = ([Value.string t] ++ vals k) ++ vals z64 := by simp [cerV, cerL]
  have l1 : ([Value.string t] ++ vals k).length = 33 := by simp [vals_length, lk]
  unfold putV
  rw [e, List.take_left' l1, List.drop_append, l1, List.drop_of_length_le (by rw [l1]; omega), List.nil_append, Nat.add_sub_cancel_left]
  unfold cerV cerL padN
  rw [vals_append]
  have ez : (vals z64).drop R.length = vals (List.replicate (64 - R.length) 0) := by
    unfold z64 vals
    rw [List.map_replicate, List.drop_replicate, List.map_replicate]
  rw [ez]
  simp
set_option maxHeartbeats 8000000 in
set_option maxRecDepth 100000 in
theorem readcert_m (l : List Nat) (q : Option Addr) (n cc : Nat) (bb : Bytes l) (hn : n ≤ 1000000) (W : World) (hs : SB W (.slice q n cc) l) :
    Calls Tryd.prog 12 #[.slice q n cc] W fun e w' => e = .returned (.tuple #[.agg (cerV (strB (readC l).2.1) (readC l).2.2.1 (readC l).2.2.2), .int .i64 ((readC l).1 : Int)]) ∧ Below W.heap.size W w' := by
  obtain ⟨y, l1, c1, c2, T3, T4, T5, f, H⟩ := RC.mk' l
  have NC := Lib.hid (fun (w : World) (h : Below W.heap.size W w) => new_m l q n cc bb hn w (hs.below h))
  have BC := fun (g : Nat) (w : World) (p : Option Addr) (h : RM g w p l 0) => byte_m g p l 0 w h (Nat.le_of_lt h.lt)
  rw [H.hy, H.h1, H.hc] at BC
  have DC := fun (g : Nat) (w : World) (p : Option Addr) (h : RM g w p l1 c2) => bytes_m g p l1 y c2 w h (Nat.le_of_lt h.lt)
  rw [H.h3] at DC
  have KC := fun (g : Nat) (w : World) (p : Option Addr) (h : RM g w p T3.2.1 T3.2.2) => key_m g p T3.2.1 T3.2.2 w h
  rw [H.h4] at KC
  have lk : (padN 32 T4.1).length = 32 := padN_length (by rw [← H.h4]; exact tookS_len _ _ _)
  have l5 : T5.1.length ≤ 64 := by rw [← H.h5]; exact tookS_len _ _ _
  have ls : (padN 64 T5.1).length = 64 := padN_length l5
  have FC := fun (g : Nat) (w : World) (p : Option Addr) (g6 : Nat) (cs : Array Value) (h : RM g w p T4.2.1 T4.2.2) (hg : g < g6) (K : Blk w g6 37 cs) (hn : 33 + 64 ≤ cs.size) => fill_m g p T4.2.1 T4.2.2 g6 33 64 64 cs 37 w h hg K hn (by decide)
  rw [H.h5] at FC
  have WC := fun (g : Nat) (w : World) (p : Option Addr) (h : RM g w p T5.2.1 T5.2.2) => whole_m g p T5.2.1 T5.2.2 (strB T3.1) (padN 32 T4.1) (padN 64 T5.1) lk ls w h
  rw [H.hf] at WC
  have y8 : y < 256 := by
    rw [← H.hy]
    refine Bytes.getD (fun x hx => ?_) 0
    have : x ∈ l := by
      unfold tookS at hx
      split at hx
      · cases hx
      · split at hx
        · cases hx
        · exact List.mem_of_mem_take hx
    exact bb x this
  obtain ⟨fb, hfb⟩ : ∃ b, decide (1 ≤ y ∧ y ≤ 32) = b := ⟨_, rfl⟩
  have FT := Lib.hid (fun (w : World) => fits_c y w fb hfb)
  have hfb := Lib.hid hfb
  have HX := Lib.hid H
  have BC := Lib.hid BC
  have DC := Lib.hid DC
  have KC := Lib.hid KC
  have FC := Lib.hid FC
  have WC := Lib.hid WC
  have LK := Lib.hid (And.intro lk (And.intro ls l5))
  have yi : IntKind.i64.wrap (y : Int) = (y : Int) := by rw [IntKind.wrap_i64]; omega
  have yu : IntKind.u64.wrap (y : Int) = (y : Int) := by rw [IntKind.wrap_u64]; omega
  obtain ⟨RS, hRS⟩ : ∃ RS, Value.tuple #[.agg (cerV (strB (readC l).2.1) (readC l).2.2.1 (readC l).2.2.2), .int .i64 ((readC l).1 : Int)] = RS := ⟨_, rfl⟩
  rw [hRS]
  have HRS := Lib.hid hRS
  clear hs bb hn H lk ls l5 y8 hRS
  go_enter Tryd.func12, Tryd.ntmps12
  go_upto_region 0 with fail
  rename_i aK
  refine wp_region_seq ?_
  refine wpSeq_wp rfl ?_
  unfold Oper.wp execOp
  go_simp
  refine wpSeq_yield (S := fun _ => True) (yieldsIf_assign rfl _ rfl (.int .i64 0) rfl) trivial ?_
  simp only [AP]
  refine wpSeq_nil ?_
  refine aK _ _ ?_
  clear aK
  generalize hW : World.alloc W _ = w1
  obtain ⟨Z, hZ, KR, b0⟩ : ∃ Z : Array Value, Z.size = 97 ∧ Blk w1 W.heap.size 37 Z ∧ Below W.heap.size W w1 := by
    rw [← hW]
    exact ⟨_, rfl, Blk.new _ _ _, (Below.refl _ _).alloc (Nat.le_refl _) _⟩
  clear hW
  go_upto_region 1 with fail
  rename_i aK
  refine wp_region_seq ?_
  refine wpSeq_yield (S := fun _ => True) (yieldsIf_move rfl _ rfl (.slice q n cc) rfl) trivial ?_
  simp only [AP]
  refine wpSeq_wp rfl ?_
  unfold Oper.wp execOp
  go_simp
  refine (NC.out w1 b0).mono ?_
  rintro _ w2 ⟨g, rfl, hg, R2, b2⟩
  have NG := Lib.hid (Nat.lt_of_lt_of_le KR.lt hg)
  replace KR := KR.below' b2
  replace b0 := b0.trans (b2.mono b0.size)
  clear NC b2 hg
  go_simp
  refine wpSeq_yield (S := fun _ => True) (v := .agg #[.pointer (some ⟨g, 0, none⟩)]) (Or.inl ⟨by rfl, fun w' hw' => by (go_simp)⟩) trivial ?_
  simp only [AP]
  refine wpSeq_wp rfl ?_
  unfold Oper.wp execOp
  go_simp
  generalize hW : World.alloc w2 _ = w3
  obtain ⟨Z4, hZ4, K4, b3⟩ : ∃ Z4 : Array Value, Z4.size = 1 ∧ Blk w3 w2.heap.size 57 Z4 ∧ Below w2.heap.size w2 w3 := by
    rw [← hW]
    exact ⟨_, rfl, Blk.new _ _ _, (Below.refl _ _).alloc (Nat.le_refl _) _⟩
  clear hW
  have NG4 := Lib.hid (show W.heap.size < w2.heap.size ∧ g < w2.heap.size from ⟨KR.lt, R2.lt⟩)
  replace KR := KR.below' b3
  replace R2 := R2.below b3
  replace b0 := b0.trans (b3.mono b0.size)
  clear b3
  obtain ⟨g4, hg4⟩ : ∃ g, w2.heap.size = g := ⟨_, rfl⟩
  rw [hg4] at K4 NG4 ⊢
  clear hg4
  refine wpSeq_store_row rfl 57 _ _ rfl g4 #[.pointer (some ⟨g, 0, none⟩)] rfl rfl _ _ K4 info_reader (by rw [hZ4]; rfl) (by simp [Value.oneCell']) ?_
  simp only [Act.put]
  refine wpSeq_nil ?_
  refine (by assumption : ∀ (a : Act) (w : World), _ → _) _ _ ?_
  have G4 := grown_one w3 g4 #[.pointer (some ⟨g, 0, none⟩)]
  replace R2 := R2.other G4 NG4.out.2
  replace K4 := K4.row #[.pointer (some ⟨g, 0, none⟩)]
  replace KR : Blk (w3.setRow g4 #[.pointer (some ⟨g, 0, none⟩)]) W.heap.size 37 Z := KR.rowFar (by have := NG4.out; omega) _
  have gg4 : W.heap.size ≤ g4 := by have := NG4.out; omega
  replace b0 := below_setRow b0 gg4 #[.pointer (some ⟨g, 0, none⟩)]
  generalize World.setRow w3 g4 _ = w4 at *
  clear G4 gg4
  have c4 : w4.cell? ⟨g4, 0, none⟩ = some (.pointer (some ⟨g, 0, none⟩)) := K4.cell 0
  go_upto_region 2 with fail
  rename_i aK
  refine wp_region_seq ?_
  refine wpSeq_yield (S := fun _ => True) (v := .pointer (some ⟨g4, 0, none⟩)) (Or.inl ⟨by rfl, fun w' hw' => by go_simp⟩) trivial ?_
  simp only [AP]
  refine wpSeq_yield (S := fun w' => w' = w4) (v := .pointer (some ⟨g, 0, none⟩)) (Or.inl ⟨by rfl, fun w' hw' => by (rw [hw']; go_simp)⟩) rfl ?_
  simp only [AP]
  refine wpSeq_wp rfl ?_
  unfold Oper.wp execOp
  go_simp
  refine (BC.out g w4 _ R2).mono ?_
  rintro _ w5 ⟨rfl, R5, G5⟩
  replace K4 : Blk w5 g4 57 #[.pointer (some ⟨g, 0, none⟩)] := (G5.block _ K4.lt (fun e => by have := Option.some.inj e; have := NG4.out; omega)).trans K4
  replace KR : Blk w5 W.heap.size 37 Z := (G5.block _ KR.lt (fun e => by have := Option.some.inj e; have := NG.out; omega)).trans KR
  have ng : W.heap.size ≤ g := Nat.le_of_lt NG.out
  replace b0 := below_gb b0 G5 ng b0.size
  clear BC G5 R2 c4 ng
  go_simp
  refine wpSeq_yield (S := fun _ => True) (yieldsIf_assign rfl _ rfl (.int .u8 (y : Int)) rfl) trivial ?_
  simp only [AP]
  refine wpSeq_nil ?_
  refine (by assumption : ∀ (a : Act) (w : World), _ → _) _ _ ?_
  go_upto_region 3 with fail
  rename_i KJ aJ K3 a3
  have AK : ∀ (u15 u16 u17 u18 u19 : Value) (w' : World), RM g w' (some ⟨g, 0, none⟩) l1 c2 → Blk w' g4 57 #[.pointer (some ⟨g, 0, none⟩)] → Blk w' W.heap.size 37 Z → Below W.heap.size W w' → KJ { tmps := #[.slice q n cc, undef, .pointer (some ⟨W.heap.size, 0, none⟩), .int .i64 0, .pointer (some ⟨g4, 0, none⟩), .int .u8 (y : Int), undef, .slice q n cc, .pointer (some ⟨g, 0, none⟩), .agg #[.pointer (some ⟨g, 0, none⟩)], .pointer (some ⟨g4, 0, none⟩), .pointer (some ⟨g, 0, none⟩), .int .u8 (y : Int), .int .u8 (y : Int), .int .i64 (y : Int), u15, u16, u17, u18, u19, undef, undef, undef, undef, undef, undef, undef, undef, undef, undef, undef, undef, undef, undef, undef, undef, undef, undef], defers := [] } w' := by
    intro u15 u16 u17 u18 u19 w6 R6 K6 KR6 b6
    refine aJ _ _ ?_
    clear aJ a3 FT K4 KR R5 b0
    have bd := below_drew (Below.refl w6.heap.size w6)
    replace R6 := R6.below bd
    replace K6 := K6.below' bd
    replace KR6 := KR6.below' bd
    replace b6 := b6.trans (bd.mono b6.size)
    clear bd
    go_upto_region 5 with fail
    rename_i K5 a5
    have AK2 : ∀ (g6 : Nat) (v24 : Value) (w' : World), g < g6 → g4 < g6 → RM g w' (some ⟨g, 0, none⟩) T4.2.1 T4.2.2 → Blk w' g4 57 #[.pointer (some ⟨g, 0, none⟩)] → Blk w' W.heap.size 37 Z → Blk w' g6 37 (cerV (strB T3.1) (padN 32 T4.1) z64) → Below W.heap.size W w' → K5 { tmps := #[.slice q n cc, undef, .pointer (some ⟨W.heap.size, 0, none⟩), .int .i64 0, .pointer (some ⟨g4, 0, none⟩), .int .u8 (y : Int), .pointer (some ⟨g6, 0, none⟩), .slice q n cc, .pointer (some ⟨g, 0, none⟩), .agg #[.pointer (some ⟨g, 0, none⟩)], .pointer (some ⟨g4, 0, none⟩), .pointer (some ⟨g, 0, none⟩), .int .u8 (y : Int), .int .u8 (y : Int), .int .i64 (y : Int), u15, u16, u17, u18, u19, .pointer (some ⟨g4, 0, none⟩), .pointer (some ⟨g, 0, none⟩), .int .u8 (y : Int), .int .u64 (y : Int), v24, .string (strB T3.1), .agg #[.pointer (some ⟨g, 0, none⟩)], .agg (Iv .u8 (NI (padN 32 T4.1))), .agg (cerV (strB T3.1) (padN 32 T4.1) z64), undef, undef, undef, undef, undef, undef, undef, undef, undef], defers := [] } w' := by
      intro g6 v24 w7 lg lg4 R7 K7 KR7 KC7 b7
      refine a5 _ _ ?_
      clear a5 DC KC R6 K6 KR6 b6
      have NG6 := Lib.hid (And.intro lg lg4)
      clear lg lg4
      have bd := below_drew (Below.refl w7.heap.size w7)
      replace R7 := R7.below bd
      replace K7 := K7.below' bd
      replace KR7 := KR7.below' bd
      replace KC7 := KC7.below' bd
      replace b7 := b7.trans (bd.mono b7.size)
      clear bd
      go_upto_region 6 with fail
      rename_i aK
      refine wp_region_S (S := fun w' => Blk w' g4 57 #[.pointer (some ⟨g, 0, none⟩)]) (by kernel_rfl) ?_
      generalize w7.drew = w8 at *
      have hS := K7
      refine wpAnyS_takeL 0 (v := .agg #[.pointer (some ⟨g, 0, none⟩)]) rfl (by kernel_rfl) (by kernel_rfl) (by kernel_rfl) (fun _ _ _ H => H) (show YieldsIf _ _ _ _ (.agg #[.pointer (some ⟨g, 0, none⟩)]) _ from yieldsIf_row_wanted (S := fun w' => Blk w' g4 57 #[.pointer (some ⟨g, 0, none⟩)]) rfl 57 _ rfl g4 rfl 57 _ _ (fun _ h => h) Tryd.underlying57 rfl info_reader) hS ?_
      simp only [AP]
      refine wpAnyS_takeL 1 (v := .pointer (some ⟨g6, 33, none⟩)) rfl (by kernel_rfl) (by kernel_rfl) (by kernel_rfl) (fun _ _ _ H => H) (Or.inl ⟨by rfl, fun w' hw' => by (go_simp)⟩) hS ?_
      simp only [AP]
      refine wpAnyS_takeL 2 (v := .slice (some ⟨g6, 33, none⟩) 64 64) rfl (by kernel_rfl) (by kernel_rfl) (by kernel_rfl) (fun _ _ _ H => H) (Or.inl ⟨by rfl, fun w' hw' => by (go_simp)⟩) hS ?_
      simp only [AP]
      clear hS
      refine gstep 3 rfl rfl (by kernel_rfl) ?_
      unfold Oper.wp execOp
      go_simp
      refine (FC.out g w8 _ g6 _ R7 NG6.out.1 KC7 (by rw [cerV_size _ LK.out.1 z64_length]; decide)).mono ?_
      rintro _ w9 ⟨⟨vx, rfl⟩, R9, KC9, T9⟩
      rw [cert_fill _ LK.out.1] at KC9
      have n4 : g4 ≠ g := by have := NG4.out; omega
      replace K7 : Blk w9 g4 57 #[.pointer (some ⟨g, 0, none⟩)] := (T9.block _ K7.lt n4 (by have := NG6.out; omega)).trans K7
      replace KR7 : Blk w9 W.heap.size 37 Z := (T9.block _ KR7.lt (by have := NG.out; omega) (by have := NG4.out; have := NG6.out; omega)).trans KR7
      replace b7 := Two.below b7 T9 (by have := NG.out; omega) (by have := NG4.out; have := NG6.out; omega) b7.size
      refine ⟨K7, ?_⟩
      clear FC R7 KC7 T9 n4
      refine wpAnyS_done (by kernel_rfl) ?_ _
      refine aK _ _ ?_
      clear aK
      have cz := info_cerV (strB T3.1) LK.out.1 LK.out.2.1
      obtain ⟨XV, hXV⟩ : ∃ X, (if f = 0 then cerV (strB T3.1) (padN 32 T4.1) (padN 64 T5.1) else cerV ⟨#[]⟩ z32 z64) = X := ⟨_, rfl⟩
      have xz : XV.size = 97 := by
        rw [← hXV]
        split
        · exact cerV_size _ LK.out.1 LK.out.2.1
        · exact cerV_size _ z32_length z64_length
      have x1 : XV.all (·.oneCell') = true := by
        rw [← hXV]
        split
        · exact cerV_one _ _ _
        · exact cerV_one _ _ _
      have xi : (Tryd.prog.info? 37).map (·.size) = some XV.size := by rw [xz]; exact info_cert
      have WD := WC.out g w9 _ R9
      rw [hXV] at WD
      have WD := Lib.hid WD
      replace hXV := Lib.hid hXV
      replace x1 := Lib.hid x1
      clear WC R9
      go_upto_region 7 with fail
      rename_i aK
      refine wp_region_seq ?_
      refine wpSeq_yield (S := fun w' => w' = w9) (show YieldsIf _ _ _ _ (.agg #[.pointer (some ⟨g, 0, none⟩)]) _ from yieldsIf_row_wanted (S := fun w' => w' = w9) rfl 57 _ rfl g4 rfl 57 _ _ (fun _ h => h ▸ K7) Tryd.underlying57 rfl info_reader) rfl ?_
      simp only [AP]
      refine wpSeq_yield (S := fun w' => w' = w9) (show YieldsIf _ _ _ _ (.agg (cerV (strB T3.1) (padN 32 T4.1) (padN 64 T5.1))) _ from yieldsIf_row_wanted (S := fun w' => w' = w9) rfl 37 _ rfl g6 rfl 37 _ _ (fun _ h => h ▸ KC9) Tryd.underlying37 rfl cz) rfl ?_
      simp only [AP]
      refine wpSeq_wp rfl ?_
      unfold Oper.wp execOp
      go_simp
      refine WD.out.mono ?_
      rintro _ w10 ⟨rfl, G10⟩
      replace KR7 : Blk w10 W.heap.size 37 Z := (G10.block _ KR7.lt (fun e => by have := Option.some.inj e; have := NG.out; omega)).trans KR7
      have ng : W.heap.size ≤ g := Nat.le_of_lt NG.out
      replace b7 := below_gb b7 G10 ng b7.size
      clear WD G10 K7 KC9 ng cz
      go_simp
      refine wpSeq_yield (S := fun _ => True) (v := .agg XV) (Or.inl ⟨by rfl, fun w' hw' => by go_simp⟩) trivial ?_
      simp only [AP]
      refine wpSeq_yield (S := fun _ => True) (v := .int .i64 (f : Int)) (Or.inl ⟨by rfl, fun w' hw' => by go_simp⟩) trivial ?_
      simp only [AP]
      refine wpSeq_store_row rfl 37 _ _ rfl W.heap.size XV rfl rfl _ _ KR7 xi (by rw [hZ, xz]) x1.out ?_
      simp only [Act.put]
      refine wpSeq_yield (S := fun _ => True) (yieldsIf_assign rfl _ rfl (.int .i64 (f : Int)) rfl) trivial ?_
      simp only [AP]
      refine wpSeq_nil ?_
      refine (by assumption : ∀ (a : Act) (w : World), _ → _) _ _ ?_
      go_wp2
      refine bodyPost_ret (results_cell_tmp rfl _ _ _ 37 _ (0, 0) _ _ rfl (Blk.row KR7 _) Tryd.underlying37 rfl xi rfl) rfl ?_
      refine ⟨?_, below_setRow b7 (Nat.le_refl _) _⟩
      rw [← HRS.out, ← HX.out.ans XV hXV.out]
      rfl
    clear a5 FC WC
    refine wp_region_S (S := fun w' => Blk w' g4 57 #[.pointer (some ⟨g, 0, none⟩)]) (by kernel_rfl) ?_
    generalize w6.drew = w7 at *
    have hS := K6
    refine wpAnyS_takeL 0 (v := .pointer (some ⟨g4, 0, none⟩)) rfl (by kernel_rfl) (by kernel_rfl) (by kernel_rfl) (fun _ _ _ H => H) (Or.inl ⟨by rfl, fun w' hw' => by go_simp⟩) hS ?_
    simp only [AP]
    refine wpAnyS_takeL 1 (v := .pointer (some ⟨g, 0, none⟩)) rfl (by kernel_rfl) (by kernel_rfl) (by kernel_rfl) (fun _ _ _ H => H) (Or.inl ⟨by rfl, fun w' hw' => by (have cc := hw'.cell 0; go_simp)⟩) hS ?_
    simp only [AP]
    refine wpAnyS_takeL 2 (v := .int .u8 (y : Int)) rfl (by kernel_rfl) (by kernel_rfl) (by kernel_rfl) (fun _ _ _ H => H) (yieldsIf_move rfl _ rfl (.int .u8 (y : Int)) rfl) hS ?_
    simp only [AP]
    refine wpAnyS_takeL 3 (v := .int .u64 (y : Int)) rfl (by kernel_rfl) (by kernel_rfl) (by kernel_rfl) (fun _ _ _ H => H) (Or.inl ⟨by rfl, fun w' hw' => by go_simp⟩) hS ?_
    simp only [AP]
    refine wpAnyS_takeL 6 (v := .agg #[.pointer (some ⟨g, 0, none⟩)]) rfl (by kernel_rfl) (by kernel_rfl) (by kernel_rfl) (fun _ _ _ H => H) (show YieldsIf _ _ _ _ (.agg #[.pointer (some ⟨g, 0, none⟩)]) _ from yieldsIf_row_wanted (S := fun w' => Blk w' g4 57 #[.pointer (some ⟨g, 0, none⟩)]) rfl 57 _ rfl g4 rfl 57 _ _ (fun _ h => h) Tryd.underlying57 rfl info_reader) hS ?_
    simp only [AP]
    clear hS
    refine gsteps 4 9 rfl rfl rfl rfl (by kernel_rfl) ?_ ?_
    · skip
      unfold Oper.wp execOp
      go_simp
      have R6o := R6
      refine (DC.out g w7 _ R6).mono ?_
      rintro _ w8 ⟨⟨v24, rfl, O24⟩, R6, GG⟩
      have NV := Lib.hid (fun j (hj : v24.ownBlock = some j) => show j ≠ g from by
        have h1 := (O24.lt j hj).1
        have h2 := R6o.lt
        skip
        omega)
      clear R6o
      replace K6 : Blk w8 g4 57 #[.pointer (some ⟨g, 0, none⟩)] := (GG.block _ K6.lt (fun e => by have := Option.some.inj e; have := NG4.out; omega)).trans K6
      replace KR6 : Blk w8 W.heap.size 37 Z := (GG.block _ KR6.lt (fun e => by have := Option.some.inj e; have := NG.out; omega)).trans KR6
      have ng : W.heap.size ≤ g := Nat.le_of_lt NG.out
      replace b6 := below_gb b6 GG ng b6.size
      clear ng
      clear GG
      refine ⟨K6, ?_⟩
      refine wpAnyS_more (S' := fun w' => Blk w' g4 57 #[.pointer (some ⟨g, 0, none⟩)] ∧ SB w' v24 T3.1) (fun _ h => h.1) _ _ _ _ ?_
      have hS := And.intro K6 O24.sb
      refine wpAnyS_takeL 5 (v := .string (strB T3.1)) rfl (by kernel_rfl) (by kernel_rfl) (by kernel_rfl) (fun _ _ _ H => H) (yieldsIf_conv (S := fun w' => Blk w' g4 57 #[.pointer (some ⟨g, 0, none⟩)] ∧ SB w' v24 T3.1) rfl _ rfl v24 rfl T3.1 (fun _ h => h.2)) hS ?_
      simp only [AP]
      clear hS
      refine gsteps 7 9 rfl rfl rfl rfl (by kernel_rfl) ?_ ?_
      · skip
        unfold Oper.wp execOp
        go_simp
        refine (KC.out g w8 _ R6).mono ?_
        rintro _ w9 ⟨rfl, R6, GG⟩
        replace K6 : Blk w9 g4 57 #[.pointer (some ⟨g, 0, none⟩)] := (GG.block _ K6.lt (fun e => by have := Option.some.inj e; have := NG4.out; omega)).trans K6
        replace KR6 : Blk w9 W.heap.size 37 Z := (GG.block _ KR6.lt (fun e => by have := Option.some.inj e; have := NG.out; omega)).trans KR6
        have ng : W.heap.size ≤ g := Nat.le_of_lt NG.out
        replace b6 := below_gb b6 GG ng b6.size
        clear ng
        replace O24 := O24.of_block (w' := w9) (fun j hj => GG.block j (O24.lt j hj).2 (fun e => by have := Option.some.inj e; have := NV.out j hj; omega))
        clear GG
        have hS := And.intro K6 O24.sb
        refine ⟨hS, ?_⟩
        refine wpAnyS_takeL 8 (v := .agg (cerV (strB T3.1) (padN 32 T4.1) z64)) rfl (by kernel_rfl) (by kernel_rfl) (by kernel_rfl) (fun _ _ _ H => H) (yieldsIf_cert rfl _ _ rfl (strB T3.1) (padN 32 T4.1) LK.out.1 rfl rfl) hS ?_
        simp only [AP]
        clear hS
        refine gstep 9 rfl rfl (by kernel_rfl) ?_
        unfold Oper.wp execOp
        go_simp
        generalize hW : World.alloc w9 _ = w10
        obtain ⟨Z6, hZ6, KC6, bb⟩ : ∃ Z6 : Array Value, Z6.size = 97 ∧ Blk w10 w9.heap.size 37 Z6 ∧ Below w9.heap.size w9 w10 := by
          rw [← hW]
          exact ⟨_, rfl, Blk.new _ _ _, (Below.refl _ _).alloc (Nat.le_refl _) _⟩
        clear hW
        have NG6 := Lib.hid (show g < w9.heap.size ∧ g4 < w9.heap.size from ⟨R6.lt, K6.lt⟩)
        replace K6 := K6.below' bb
        replace KR6 := KR6.below' bb
        replace R6 := R6.below bb
        replace b6 := b6.trans (bb.mono b6.size)
        obtain ⟨g6, hg6⟩ : ∃ g, w9.heap.size = g := ⟨_, rfl⟩
        replace NV := Lib.hid (fun j (hj : v24.ownBlock = some j) => show j ≠ g ∧ j ≠ g6 from by
          have h1 := (O24.lt j hj).2
          have h2 := NV.out j hj
          omega)
        replace O24 := O24.below bb
        rw [hg6] at KC6 NG6 ⊢
        clear hg6 bb
        refine ⟨⟨K6, O24.sb⟩, ?_⟩
        have czz := info_cerV (strB T3.1) LK.out.1 z64_length
        have czs := cerV_size (strB T3.1) LK.out.1 z64_length
        refine gstep 10 rfl rfl (by kernel_rfl) (wp_store_row 37 _ _ rfl g6 (cerV (strB T3.1) (padN 32 T4.1) z64) rfl rfl _ _ KC6 czz (by rw [hZ6, czs]) (cerV_one _ _ _) ⟨?_, ?_⟩)
        · exact ⟨K6.rowFar (by have := NG6.out; omega) _, (O24.of_block (w' := World.setRow w10 g6 _) fun j hj => setRow_other w10 g6 j _ (by have := NV.out j hj; omega)).sb⟩
        simp only [Act.put]
        refine wpAnyS_done (by kernel_rfl) ?_ _
        have g6w : W.heap.size ≤ g6 := by have := NG4.out; have := NG6.out; omega
        exact AK2 g6 v24 _ NG6.out.1 NG6.out.2 (R6.other (grown_one w10 g6 _) NG6.out.1) (K6.rowFar (by have := NG6.out; omega) _) (KR6.rowFar (by have := NG4.out; have := NG6.out; omega) _) (KC6.row _) (below_setRow b6 g6w _)
      · skip
        unfold Oper.wp execOp
        go_simp
        generalize hW : World.alloc w8 _ = w11
        obtain ⟨Z6, hZ6, KC6, bb⟩ : ∃ Z6 : Array Value, Z6.size = 97 ∧ Blk w11 w8.heap.size 37 Z6 ∧ Below w8.heap.size w8 w11 := by
          rw [← hW]
          exact ⟨_, rfl, Blk.new _ _ _, (Below.refl _ _).alloc (Nat.le_refl _) _⟩
        clear hW
        have NG6 := Lib.hid (show g < w8.heap.size ∧ g4 < w8.heap.size from ⟨R6.lt, K6.lt⟩)
        replace K6 := K6.below' bb
        replace KR6 := KR6.below' bb
        replace R6 := R6.below bb
        replace b6 := b6.trans (bb.mono b6.size)
        obtain ⟨g6, hg6⟩ : ∃ g, w8.heap.size = g := ⟨_, rfl⟩
        replace NV := Lib.hid (fun j (hj : v24.ownBlock = some j) => show j ≠ g ∧ j ≠ g6 from by
          have h1 := (O24.lt j hj).2
          have h2 := NV.out j hj
          omega)
        replace O24 := O24.below bb
        rw [hg6] at KC6 NG6 ⊢
        clear hg6 bb
        refine ⟨⟨K6, O24.sb⟩, ?_⟩
        refine gstep 7 rfl rfl (by kernel_rfl) ?_
        unfold Oper.wp execOp
        go_simp
        refine (KC.out g w11 _ R6).mono ?_
        rintro _ w12 ⟨rfl, R6, GG⟩
        replace K6 : Blk w12 g4 57 #[.pointer (some ⟨g, 0, none⟩)] := (GG.block _ K6.lt (fun e => by have := Option.some.inj e; have := NG4.out; omega)).trans K6
        replace KR6 : Blk w12 W.heap.size 37 Z := (GG.block _ KR6.lt (fun e => by have := Option.some.inj e; have := NG.out; omega)).trans KR6
        have ng : W.heap.size ≤ g := Nat.le_of_lt NG.out
        replace b6 := below_gb b6 GG ng b6.size
        clear ng
        replace KC6 : Blk w12 g6 37 Z6 := (GG.block _ KC6.lt (fun e => by have := Option.some.inj e; have := NG6.out; omega)).trans KC6
        replace O24 := O24.of_block (w' := w12) (fun j hj => GG.block j (O24.lt j hj).2 (fun e => by have := Option.some.inj e; have := NV.out j hj; omega))
        clear GG
        have hS := And.intro K6 O24.sb
        refine ⟨hS, ?_⟩
        refine wpAnyS_takeL 8 (v := .agg (cerV (strB T3.1) (padN 32 T4.1) z64)) rfl (by kernel_rfl) (by kernel_rfl) (by kernel_rfl) (fun _ _ _ H => H) (yieldsIf_cert rfl _ _ rfl (strB T3.1) (padN 32 T4.1) LK.out.1 rfl rfl) hS ?_
        simp only [AP]
        clear hS
        have czz := info_cerV (strB T3.1) LK.out.1 z64_length
        have czs := cerV_size (strB T3.1) LK.out.1 z64_length
        refine gstep 10 rfl rfl (by kernel_rfl) (wp_store_row 37 _ _ rfl g6 (cerV (strB T3.1) (padN 32 T4.1) z64) rfl rfl _ _ KC6 czz (by rw [hZ6, czs]) (cerV_one _ _ _) ⟨?_, ?_⟩)
        · exact ⟨K6.rowFar (by have := NG6.out; omega) _, (O24.of_block (w' := World.setRow w12 g6 _) fun j hj => setRow_other w12 g6 j _ (by have := NV.out j hj; omega)).sb⟩
        simp only [Act.put]
        refine wpAnyS_done (by kernel_rfl) ?_ _
        have g6w : W.heap.size ≤ g6 := by have := NG4.out; have := NG6.out; omega
        exact AK2 g6 v24 _ NG6.out.1 NG6.out.2 (R6.other (grown_one w12 g6 _) NG6.out.1) (K6.rowFar (by have := NG6.out; omega) _) (KR6.rowFar (by have := NG4.out; have := NG6.out; omega) _) (KC6.row _) (below_setRow b6 g6w _)
    · skip
      unfold Oper.wp execOp
      go_simp
      generalize hW : World.alloc w7 _ = w13
      obtain ⟨Z6, hZ6, KC6, bb⟩ : ∃ Z6 : Array Value, Z6.size = 97 ∧ Blk w13 w7.heap.size 37 Z6 ∧ Below w7.heap.size w7 w13 := by
        rw [← hW]
        exact ⟨_, rfl, Blk.new _ _ _, (Below.refl _ _).alloc (Nat.le_refl _) _⟩
      clear hW
      have NG6 := Lib.hid (show g < w7.heap.size ∧ g4 < w7.heap.size from ⟨R6.lt, K6.lt⟩)
      replace K6 := K6.below' bb
      replace KR6 := KR6.below' bb
      replace R6 := R6.below bb
      replace b6 := b6.trans (bb.mono b6.size)
      obtain ⟨g6, hg6⟩ : ∃ g, w7.heap.size = g := ⟨_, rfl⟩
      have _z := 0
      rw [hg6] at KC6 NG6 ⊢
      clear hg6 bb
      refine ⟨K6, ?_⟩
      refine gstep 4 rfl rfl (by kernel_rfl) ?_
      unfold Oper.wp execOp
      go_simp
      have R6o := R6
      refine (DC.out g w13 _ R6).mono ?_
      rintro _ w14 ⟨⟨v24, rfl, O24⟩, R6, GG⟩
      have NV := Lib.hid (fun j (hj : v24.ownBlock = some j) => show j ≠ g ∧ j ≠ g6 from by
        have h1 := (O24.lt j hj).1
        have h2 := R6o.lt
        have h3 := KC6.lt
        omega)
      clear R6o
      replace K6 : Blk w14 g4 57 #[.pointer (some ⟨g, 0, none⟩)] := (GG.block _ K6.lt (fun e => by have := Option.some.inj e; have := NG4.out; omega)).trans K6
      replace KR6 : Blk w14 W.heap.size 37 Z := (GG.block _ KR6.lt (fun e => by have := Option.some.inj e; have := NG.out; omega)).trans KR6
      have ng : W.heap.size ≤ g := Nat.le_of_lt NG.out
      replace b6 := below_gb b6 GG ng b6.size
      clear ng
      replace KC6 : Blk w14 g6 37 Z6 := (GG.block _ KC6.lt (fun e => by have := Option.some.inj e; have := NG6.out; omega)).trans KC6
      clear GG
      refine ⟨K6, ?_⟩
      refine wpAnyS_more (S' := fun w' => Blk w' g4 57 #[.pointer (some ⟨g, 0, none⟩)] ∧ SB w' v24 T3.1) (fun _ h => h.1) _ _ _ _ ?_
      have hS := And.intro K6 O24.sb
      refine wpAnyS_takeL 5 (v := .string (strB T3.1)) rfl (by kernel_rfl) (by kernel_rfl) (by kernel_rfl) (fun _ _ _ H => H) (yieldsIf_conv (S := fun w' => Blk w' g4 57 #[.pointer (some ⟨g, 0, none⟩)] ∧ SB w' v24 T3.1) rfl _ rfl v24 rfl T3.1 (fun _ h => h.2)) hS ?_
      simp only [AP]
      clear hS
      refine gstep 7 rfl rfl (by kernel_rfl) ?_
      unfold Oper.wp execOp
      go_simp
      refine (KC.out g w14 _ R6).mono ?_
      rintro _ w15 ⟨rfl, R6, GG⟩
      replace K6 : Blk w15 g4 57 #[.pointer (some ⟨g, 0, none⟩)] := (GG.block _ K6.lt (fun e => by have := Option.some.inj e; have := NG4.out; omega)).trans K6
      replace KR6 : Blk w15 W.heap.size 37 Z := (GG.block _ KR6.lt (fun e => by have := Option.some.inj e; have := NG.out; omega)).trans KR6
      have ng : W.heap.size ≤ g := Nat.le_of_lt NG.out
      replace b6 := below_gb b6 GG ng b6.size
      clear ng
      replace KC6 : Blk w15 g6 37 Z6 := (GG.block _ KC6.lt (fun e => by have := Option.some.inj e; have := NG6.out; omega)).trans KC6
      replace O24 := O24.of_block (w' := w15) (fun j hj => GG.block j (O24.lt j hj).2 (fun e => by have := Option.some.inj e; have := NV.out j hj; omega))
      clear GG
      have hS := And.intro K6 O24.sb
      refine ⟨hS, ?_⟩
      refine wpAnyS_takeL 8 (v := .agg (cerV (strB T3.1) (padN 32 T4.1) z64)) rfl (by kernel_rfl) (by kernel_rfl) (by kernel_rfl) (fun _ _ _ H => H) (yieldsIf_cert rfl _ _ rfl (strB T3.1) (padN 32 T4.1) LK.out.1 rfl rfl) hS ?_
      simp only [AP]
      clear hS
      have czz := info_cerV (strB T3.1) LK.out.1 z64_length
      have czs := cerV_size (strB T3.1) LK.out.1 z64_length
      refine gstep 10 rfl rfl (by kernel_rfl) (wp_store_row 37 _ _ rfl g6 (cerV (strB T3.1) (padN 32 T4.1) z64) rfl rfl _ _ KC6 czz (by rw [hZ6, czs]) (cerV_one _ _ _) ⟨?_, ?_⟩)
      · exact ⟨K6.rowFar (by have := NG6.out; omega) _, (O24.of_block (w' := World.setRow w15 g6 _) fun j hj => setRow_other w15 g6 j _ (by have := NV.out j hj; omega)).sb⟩
      simp only [Act.put]
      refine wpAnyS_done (by kernel_rfl) ?_ _
      have g6w : W.heap.size ≤ g6 := by have := NG4.out; have := NG6.out; omega
      exact AK2 g6 v24 _ NG6.out.1 NG6.out.2 (R6.other (grown_one w15 g6 _) NG6.out.1) (K6.rowFar (by have := NG6.out; omega) _) (KR6.rowFar (by have := NG4.out; have := NG6.out; omega) _) (KC6.row _) (below_setRow b6 g6w _)
  clear aJ DC KC FC WC
  have c4 : w5.cell? ⟨g4, 0, none⟩ = some (.pointer (some ⟨g, 0, none⟩)) := K4.cell 0
  have HF := HX.out.fits
  cases fb with
  | true =>
    have hf := hfb.out
    rw [if_pos (of_decide_eq_true hf)] at HF
    subst HF
    clear hf c4
    go_upto_region 3 with fail
    rename_i aK
    refine wp_region_seq ?_
    refine wpSeq_yield (S := fun _ => True) (yieldsIf_move rfl _ rfl (.int .u8 (y : Int)) rfl) trivial ?_
    simp only [AP]
    refine wpSeq_yield (S := fun _ => True) (v := .int .i64 (y : Int)) (Or.inl ⟨by rfl, fun w' hw' => by go_simp⟩) trivial ?_
    simp only [AP]
    refine wpSeq_wp rfl ?_
    unfold Oper.wp execOp
    go_simp
    refine (FT.out w5).mono ?_
    rintro _ w6 ⟨rfl, hw⟩
    subst w6
    clear FT
    go_simp
    refine wpSeq_yield (S := fun _ => True) (v := .bool false) (Or.inl ⟨by rfl, fun w' hw' => by go_simp⟩) trivial ?_
    simp only [AP]
    refine wpSeq_nil ?_
    refine (by assumption : ∀ (a : Act) (w : World), _ → _) _ _ ?_
    go_wp2
    exact AK _ _ _ _ _ w5 R5 K4 KR b0
  | false =>
    have hf := hfb.out
    rw [if_neg (of_decide_eq_false hf)] at HF
    have FL := fail_m g (some ⟨g, 0, none⟩) l1 c1 2 w5 R5 (Nat.le_of_lt R5.lt)
    rw [HF] at FL
    have FL := Lib.hid FL
    clear hf HF R5
    go_upto_region 3 with fail
    rename_i aK
    refine wp_region_seq ?_
    refine wpSeq_yield (S := fun _ => True) (yieldsIf_move rfl _ rfl (.int .u8 (y : Int)) rfl) trivial ?_
    simp only [AP]
    refine wpSeq_yield (S := fun _ => True) (v := .int .i64 (y : Int)) (Or.inl ⟨by rfl, fun w' hw' => by go_simp⟩) trivial ?_
    simp only [AP]
    refine wpSeq_wp rfl ?_
    unfold Oper.wp execOp
    go_simp
    refine (FT.out w5).mono ?_
    rintro _ w6 ⟨rfl, hw⟩
    subst w6
    clear FT
    go_simp
    refine wpSeq_yield (S := fun _ => True) (v := .bool true) (Or.inl ⟨by rfl, fun w' hw' => by go_simp⟩) trivial ?_
    simp only [AP]
    refine wpSeq_nil ?_
    refine (by assumption : ∀ (a : Act) (w : World), _ → _) _ _ ?_
    go_upto_region 4 with fail
    rename_i aK
    refine wp_region_seq ?_
    refine wpSeq_yield (S := fun _ => True) (v := .pointer (some ⟨g4, 0, none⟩)) (Or.inl ⟨by rfl, fun w' hw' => by go_simp⟩) trivial ?_
    simp only [AP]
    refine wpSeq_yield (S := fun w' => w' = w5) (v := .pointer (some ⟨g, 0, none⟩)) (Or.inl ⟨by rfl, fun w' hw' => by (rw [hw']; go_simp)⟩) rfl ?_
    simp only [AP]
    refine wpSeq_wp rfl ?_
    unfold Oper.wp execOp
    go_simp
    refine FL.out.mono ?_
    rintro _ w6 ⟨⟨v19, rfl⟩, R6, G6⟩
    replace K4 : Blk w6 g4 57 #[.pointer (some ⟨g, 0, none⟩)] := (G6.block _ K4.lt (fun e => by have := Option.some.inj e; have := NG4.out; omega)).trans K4
    replace KR : Blk w6 W.heap.size 37 Z := (G6.block _ KR.lt (fun e => by have := Option.some.inj e; have := NG.out; omega)).trans KR
    have ng : W.heap.size ≤ g := Nat.le_of_lt NG.out
    replace b0 := below_gb b0 G6 ng b0.size
    clear FL G6 c4 ng
    go_simp
    refine wpSeq_nil ?_
    go_wp2
    exact AK _ _ _ _ _ w6 R6 K4 KR b0
end Go.Proofs.YtegbnadnodlalaaDoor
