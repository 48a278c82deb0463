/- The reference's Cert (printed by gen14/eo.py). -/
import Derived.Test.YtegbnadnodlalaaDoorE7b
namespace Go.Proofs.YtegbnadnodlalaaDoor
open Go.RowKit
theorem cert_named {w : World} {g : Nat} {a : ByteArray} {k s : List Nat} (h : Blk w g 37 (cerV a k s)) (t : ByteArray) : Blk (w.setCell ⟨g, 0, none⟩ (.string t)) g 37 (cerV t k s) := by
  have h1 := Blk.set h 0 (.string t)
  unfold cerV cerL at h1 ⊢
  rw [List.setIfInBounds_toArray] at h1
  exact h1
theorem cert_keyput {w : World} {g : Nat} {t : ByteArray} {k s : List Nat} (hk : k.length = 32) (h : Blk w g 37 (cerV t k s)) (r : List Nat) (hr : r.length = 32) : Blk (w.setCells g 1 (vals r)) g 37 (cerV t r s) := by
  have h1 := blk_setV (vals r) (cerL t k s) 1 w h
  unfold cerL at h1
  rw [setV_split (vals r) [Value.string t] (vals k) _ 1 rfl (by rw [vals_length, vals_length, hk, hr])] at h1
  exact h1
theorem cert_rowJ (t : ByteArray) (k R : List Nat) : cerV t k z64 = rowJ ([.string t] ++ vals k) [] 64 R 0 := by
  unfold rowJ cerV cerL
  rw [pad_zero, List.append_assoc]
  rfl
theorem cert_rowF (t : ByteArray) (k R : List Nat) : rowJ ([.string t] ++ vals k) [] 64 R R.length = cerV t k (padN 64 R) := by
  rw [rowJ_full]
  unfold cerV cerL
  rw [List.append_assoc]
theorem gb_cells (w : World) (g : Nat) (vs : List Value) (o : Nat) : w.grownBy (w.setCells g o vs) (some g) := by
  have h : ∀ (vs : List Value) (o : Nat) (w0 : World), w.grownBy w0 (some g) → w.grownBy (w0.setCells g o vs) (some g) := by
    intro vs
    induction vs with
    | nil => exact fun _ _ h => h
    | cons v r ih => exact fun o w0 h => ih (o + 1) _ (gb_tr h (gb_set2 w0 g o v))
  exact h vs o w (World.grownBy.refl _ _)
set_option maxHeartbeats 8000000 in
set_option maxRecDepth 100000 in
theorem rcert_m (l : List Nat) (q : Option Addr) (n cc : Nat) (bb : Bytes l) (hn : n ≤ 1000000) (W : World) (hs : SB W (.slice q n cc) l) :
    Calls Tryd.prog 13 #[.slice q n cc] W fun e w' => e = .returned (.tuple #[.agg (cerV (strB (readC l).2.1) (readC l).2.2.1 (readC l).2.2.2), .int .i64 ((readC l).1 : Int)]) ∧ Below W.heap.size W w' := by
  obtain ⟨y, l1, c1, c2, T3, T4, T5, f, H⟩ := RC.mk' l
  have ln := hs.len.1
  have BC := fun (g : Nat) (w : World) (p : Option Addr) (h : RX W.heap.size g w p l 0) => rbyte_m W.heap.size g p l 0 w h
  rw [H.hy, H.h1, H.hc] at BC
  have DC := fun (g : Nat) (w : World) (p : Option Addr) (h : RX W.heap.size g w p l1 c2) => rbytes_m W.heap.size g p l1 y c2 w h
  rw [H.h3] at DC
  have KC := fun (g : Nat) (w : World) (p : Option Addr) (h : RX W.heap.size g w p T3.2.1 T3.2.2) => rkey_m W.heap.size g p T3.2.1 T3.2.2 w h
  rw [H.h4] at KC
  have lk : (padN 32 T4.1).length = 32 := padN_length (by rw [← H.h4]; exact tookS_len _ _ _)
  have l5 : T5.1.length ≤ 64 := by rw [← H.h5]; exact tookS_len _ _ _
  have ls : (padN 64 T5.1).length = 64 := padN_length l5
  have FC := fun (g : Nat) (w : World) (p : Option Addr) (h : RX W.heap.size g w p T4.2.1 T4.2.2) => rbytes_m W.heap.size g p T4.2.1 64 T4.2.2 w h
  rw [H.h5] at FC
  have WC := fun (g : Nat) (w : World) (p : Option Addr) (h : RX W.heap.size g w p T5.2.1 T5.2.2) => rend_m W.heap.size g p T5.2.1 T5.2.2 w h
  rw [H.hf] at WC
  have y8 : y < 256 := by
    rw [← H.hy]
    refine Bytes.getD (fun x hx => ?_) 0
    have : x ∈ l := by
      unfold tookS at hx
      split at hx
      · cases hx
      · split at hx
        · cases hx
        · exact List.mem_of_mem_take hx
    exact bb x this
  have R0 := Lib.hid (fun (g : Nat) (w : World) (hg : W.heap.size ≤ g) (b : Below W.heap.size W w) (K : Blk w g 67 #[.slice q n cc, .int .i64 0]) => show RX W.heap.size g w (some ⟨g, 0, none⟩) l 0 from ⟨⟨q, cc, rfl, ln ▸ K, ln ▸ hs.below b, hs.lo⟩, hg, by omega⟩)
  have HX := Lib.hid H
  have BC := Lib.hid BC
  have DC := Lib.hid DC
  have KC := Lib.hid KC
  have FC := Lib.hid FC
  have WC := Lib.hid WC
  have LK := Lib.hid (And.intro lk (And.intro ls l5))
  have yu : IntKind.u64.wrap (y : Int) = (y : Int) := by rw [IntKind.wrap_u64]; omega
  obtain ⟨RS, hRS⟩ : ∃ RS, Value.tuple #[.agg (cerV (strB (readC l).2.1) (readC l).2.2.1 (readC l).2.2.2), .int .i64 ((readC l).1 : Int)] = RS := ⟨_, rfl⟩
  rw [hRS]
  have HRS := Lib.hid hRS
  clear hs bb hn H lk ls l5 y8 hRS ln
  have cz0 := cerV_size ⟨#[]⟩ z32_length z64_length
  have CZ0 := info_cerV ⟨#[]⟩ z32_length z64_length
  go_enter Tryd.func13, Tryd.ntmps13
  go_upto_region 0 with fail
  rename_i aK
  refine wp_region_seq ?_
  refine wpSeq_wp rfl ?_
  unfold Oper.wp execOp
  go_simp
  refine wpSeq_yield (S := fun _ => True) (yieldsIf_assign rfl _ rfl (.int .i64 0) rfl) trivial ?_
  simp only [AP]
  refine wpSeq_nil ?_
  refine aK _ _ ?_
  clear aK
  generalize hW : World.alloc W _ = w1
  obtain ⟨Z, hZ, KR, b0⟩ : ∃ Z : Array Value, Z.size = 97 ∧ Blk w1 W.heap.size 37 Z ∧ Below W.heap.size W w1 := by
    rw [← hW]
    exact ⟨_, rfl, Blk.new _ _ _, (Below.refl _ _).alloc (Nat.le_refl _) _⟩
  clear hW
  go_upto_region 1 with fail
  rename_i aK
  refine wp_region_seq ?_
  refine wpSeq_yield (S := fun _ => True) (yieldsIf_move rfl _ rfl (.slice q n cc) rfl) trivial ?_
  simp only [AP]
  refine wpSeq_yield (S := fun _ => True) (v := .agg #[.slice q n cc, .int .i64 0]) (Or.inl ⟨by rfl, fun w' hw' => by (go_simp)⟩) trivial ?_
  simp only [AP]
  refine wpSeq_wp rfl ?_
  unfold Oper.wp execOp
  go_simp
  have KG := Blk.new w1 67 #[.slice q n cc, .int .i64 0]
  have b3 := (Below.refl w1.heap.size w1).alloc (Nat.le_refl _) (.cells #[.slice q n cc, .int .i64 0] 67)
  generalize World.alloc w1 _ = w2 at *
  have NG := Lib.hid KR.lt
  replace KR := KR.below' b3
  replace b0 := b0.trans (b3.mono b0.size)
  clear b3
  obtain ⟨g, hg⟩ : ∃ g, w1.heap.size = g := ⟨_, rfl⟩
  rw [hg] at KG NG ⊢
  clear hg
  have R2 := R0.out g w2 (Nat.le_of_lt NG.out) b0 KG
  clear R0 KG
  refine wpSeq_yield (S := fun _ => True) (yieldsIf_assign rfl _ rfl (.pointer (some ⟨g, 0, none⟩)) rfl) trivial ?_
  simp only [AP]
  refine wpSeq_nil ?_
  refine (by assumption : ∀ (a : Act) (w : World), _ → _) _ _ ?_
  go_upto_region 2 with fail
  rename_i aK
  refine wp_region_seq ?_
  refine wpSeq_yield (S := fun _ => True) (v := .agg (cerV ⟨#[]⟩ z32 z64)) (Or.inl ⟨rfl, fun w' _ => by simp only [execOp, Sem.run_bind, Array.map_empty, run_cert0 w', Result.andThen_ok, Sem.run_pure]⟩) trivial ?_
  simp only [AP]
  refine wpSeq_wp rfl ?_
  unfold Oper.wp execOp
  go_simp
  generalize hW : World.alloc w2 _ = w3
  obtain ⟨Z5, hZ5, K5, b3⟩ : ∃ Z5 : Array Value, Z5.size = 97 ∧ Blk w3 w2.heap.size 37 Z5 ∧ Below w2.heap.size w2 w3 := by
    rw [← hW]
    exact ⟨_, rfl, Blk.new _ _ _, (Below.refl _ _).alloc (Nat.le_refl _) _⟩
  clear hW
  have NG5 := Lib.hid (show W.heap.size < w2.heap.size ∧ g < w2.heap.size from ⟨KR.lt, R2.lt⟩)
  replace KR := KR.below' b3
  replace R2 := R2.below b3
  replace b0 := b0.trans (b3.mono b0.size)
  clear b3
  obtain ⟨g5, hg5⟩ : ∃ g, w2.heap.size = g := ⟨_, rfl⟩
  rw [hg5] at K5 NG5 ⊢
  clear hg5
  refine wpSeq_store_row rfl 37 _ _ rfl g5 (cerV ⟨#[]⟩ z32 z64) rfl rfl _ _ K5 CZ0 (by rw [hZ5, cz0]) (cerV_one _ _ _) ?_
  simp only [Act.put]
  refine wpSeq_nil ?_
  refine (by assumption : ∀ (a : Act) (w : World), _ → _) _ _ ?_
  have G5 := grown_one w3 g5 (cerV ⟨#[]⟩ z32 z64)
  replace R2 := R2.other G5 (by have := NG5.out; omega) (by have := NG5.out; omega)
  replace K5 := K5.row (cerV ⟨#[]⟩ z32 z64)
  replace KR : Blk (w3.setRow g5 (cerV ⟨#[]⟩ z32 z64)) W.heap.size 37 Z := KR.rowFar (by have := NG5.out; omega) _
  have gg5 : W.heap.size ≤ g5 := by have := NG5.out; omega
  replace b0 := below_setRow b0 gg5 (cerV ⟨#[]⟩ z32 z64)
  generalize World.setRow w3 g5 _ = w4 at *
  clear G5 gg5
  go_upto_region 3 with fail
  rename_i aK
  refine wp_region_seq ?_
  refine wpSeq_yield (S := fun _ => True) (yieldsIf_move rfl _ rfl (.pointer (some ⟨g, 0, none⟩)) rfl) trivial ?_
  simp only [AP]
  refine wpSeq_wp rfl ?_
  unfold Oper.wp execOp
  go_simp
  refine (BC.out g w4 _ R2).mono ?_
  rintro _ w5 ⟨rfl, R5, GG⟩
  have K5n : Blk w5 _ _ _ := (GG.block _ K5.lt (fun e => by have := Option.some.inj e; have := NG5.out; omega)).trans K5
  have KRn : Blk w5 _ _ _ := (GG.block _ KR.lt (fun e => by have := Option.some.inj e; have := NG.out; omega)).trans KR
  clear K5 KR
  have K5 := K5n
  have KR := KRn
  clear K5n KRn
  have ng : W.heap.size ≤ g := Nat.le_of_lt NG.out
  replace b0 := below_gb b0 GG ng b0.size
  clear GG ng
  clear BC R2
  go_simp
  refine wpSeq_yield (S := fun _ => True) (v := .int .u64 (y : Int)) (Or.inl ⟨by rfl, fun w' hw' => by go_simp⟩) trivial ?_
  simp only [AP]
  refine wpSeq_yield (S := fun _ => True) (yieldsIf_assign rfl _ rfl (.int .u64 (y : Int)) rfl) trivial ?_
  simp only [AP]
  refine wpSeq_nil ?_
  refine (by assumption : ∀ (a : Act) (w : World), _ → _) _ _ ?_
  go_upto_region 4 with fail
  rename_i KJ aJ K4 a4
  have AK : ∀ (u17 u18 u19 u20 u21 u22 u23 u24 : Value) (w' : World), RX W.heap.size g w' (some ⟨g, 0, none⟩) l1 c2 → Blk w' g5 37 (cerV ⟨#[]⟩ z32 z64) → Blk w' W.heap.size 37 Z → Below W.heap.size W w' → KJ { tmps := #[.slice q n cc, undef, .pointer (some ⟨W.heap.size, 0, none⟩), .int .i64 0, .pointer (some ⟨g, 0, none⟩), .pointer (some ⟨g5, 0, none⟩), .int .u64 (y : Int), undef, undef, undef, .slice q n cc, .agg #[.slice q n cc, .int .i64 0], .pointer (some ⟨g, 0, none⟩), .agg (cerV ⟨#[]⟩ z32 z64), .pointer (some ⟨g, 0, none⟩), .int .u8 (y : Int), .int .u64 (y : Int), u17, u18, u19, u20, u21, u22, u23, u24, undef, undef, undef, undef, undef, undef, undef, undef, undef, undef, undef, undef, undef, undef, undef, undef, undef, undef, undef, undef, undef, undef, undef, undef, undef, undef, undef, undef, undef, undef], defers := [] } w' := by
    intro u17 u18 u19 u20 u21 u22 u23 u24 w6 R6 K6 KR6 b6
    refine aJ _ _ ?_
    clear aJ a4 K5 KR R5 b0
    go_upto_region 6 with fail
    rename_i aK
    refine wp_region_seq ?_
    refine wpSeq_yield (S := fun _ => True) (yieldsIf_move rfl _ rfl (.pointer (some ⟨g, 0, none⟩)) rfl) trivial ?_
    simp only [AP]
    refine wpSeq_yield (S := fun _ => True) (yieldsIf_move rfl _ rfl (.int .u64 (y : Int)) rfl) trivial ?_
    simp only [AP]
    refine wpSeq_wp rfl ?_
    unfold Oper.wp execOp
    go_simp
    refine (DC.out g w6 _ R6).mono ?_
    rintro _ w7 ⟨⟨v27, rfl, S27, _⟩, R7, GG⟩
    have K5n : Blk w7 _ _ _ := (GG.block _ K6.lt (fun e => by have := Option.some.inj e; have := NG5.out; omega)).trans K6
    have KRn : Blk w7 _ _ _ := (GG.block _ KR6.lt (fun e => by have := Option.some.inj e; have := NG.out; omega)).trans KR6
    clear K6 KR6
    have K6 := K5n
    have KR6 := KRn
    clear K5n KRn
    have ng : W.heap.size ≤ g := Nat.le_of_lt NG.out
    replace b6 := below_gb b6 GG ng b6.size
    clear GG ng
    clear DC R6
    go_simp
    refine wpSeq_yield (S := fun w' => w' = w7) (yieldsIf_conv (S := fun w' => w' = w7) rfl _ rfl v27 rfl T3.1 (fun _ h => h ▸ S27)) rfl ?_
    simp only [AP]
    refine wpSeq_yield (S := fun _ => True) (v := .pointer (some ⟨g5, 0, none⟩)) (Or.inl ⟨by rfl, fun w' hw' => by (go_simp)⟩) trivial ?_
    simp only [AP]
    have cn := cert_name K6
    have fn := K6.frozen 0
    refine wpSeq_wp rfl ?_
    unfold Oper.wp execOp
    go_simp
    have GG := gb_set2 w7 g5 0 (.string (strB T3.1))
    replace R7 := R7.other GG (by have := NG5.out; omega) (by have := NG5.out; omega)
    have K8 := cert_named K6 (strB T3.1)
    have KR8 : Blk (w7.setCell ⟨g5, 0, none⟩ (.string (strB T3.1))) W.heap.size 37 Z := (GG.block _ KR6.lt (fun e => by have := Option.some.inj e; have := NG5.out; omega)).trans KR6
    have gg : W.heap.size ≤ g5 := by have := NG5.out; omega
    replace b6 := below_gb b6 GG gg b6.size
    clear GG gg cn fn K6 KR6 S27
    generalize World.setCell w7 _ _ = w8 at *
    refine wpSeq_nil ?_
    refine (by assumption : ∀ (a : Act) (w : World), _ → _) _ _ ?_
    go_upto_region 7 with fail
    rename_i aK
    refine wp_region_seq ?_
    refine wpSeq_yield (S := fun _ => True) (yieldsIf_move rfl _ rfl (.pointer (some ⟨g, 0, none⟩)) rfl) trivial ?_
    simp only [AP]
    refine wpSeq_wp rfl ?_
    unfold Oper.wp execOp
    go_simp
    refine (KC.out g w8 _ R7).mono ?_
    rintro _ w9 ⟨rfl, R9, GG⟩
    have K5n : Blk w9 _ _ _ := (GG.block _ K8.lt (fun e => by have := Option.some.inj e; have := NG5.out; omega)).trans K8
    have KRn : Blk w9 _ _ _ := (GG.block _ KR8.lt (fun e => by have := Option.some.inj e; have := NG.out; omega)).trans KR8
    clear K8 KR8
    have K8 := K5n
    have KR8 := KRn
    clear K5n KRn
    have ng : W.heap.size ≤ g := Nat.le_of_lt NG.out
    replace b6 := below_gb b6 GG ng b6.size
    clear GG ng
    clear KC R7
    go_simp
    refine wpSeq_yield (S := fun _ => True) (v := .pointer (some ⟨g5, 1, none⟩)) (Or.inl ⟨by rfl, fun w' hw' => by (go_simp)⟩) trivial ?_
    simp only [AP]
    refine wpSeq_store_mid rfl 34 _ _ rfl g5 1 (Iv .u8 (NI (padN 32 T4.1))) rfl rfl (row_there K8 1 _ (by rw [cerV_size _ z32_length z64_length, Iv_size, NI_length, LK.out.1]; decide)) (info_key _ (by rw [NI_length]; exact LK.out.1)) (u8_ones _) ?_
    simp only [Act.put]
    rw [show (Iv .u8 (NI (padN 32 T4.1))).toList = vals (padN 32 T4.1) by rw [vals_iv]]
    have gg : W.heap.size ≤ g5 := by have := NG5.out; omega
    have GG : w9.grownBy (w9.setCells g5 1 (vals (padN 32 T4.1))) (some g5) := gb_cells _ _ _ _
    replace R9 := R9.other GG (by have := NG5.out; omega) (by have := NG5.out; omega)
    have K10 := cert_keyput z32_length K8 (padN 32 T4.1) LK.out.1
    have KR10 : Blk (w9.setCells g5 1 (vals (padN 32 T4.1))) W.heap.size 37 Z := (GG.block _ KR8.lt (fun e => by have := Option.some.inj e; have := NG5.out; omega)).trans KR8
    replace b6 := below_gb b6 GG gg b6.size
    clear GG gg K8 KR8
    generalize World.setCells w9 _ _ _ = w10 at *
    refine wpSeq_nil ?_
    refine (by assumption : ∀ (a : Act) (w : World), _ → _) _ _ ?_
    go_upto_region 8 with fail
    rename_i aK
    refine wp_region_seq ?_
    refine wpSeq_yield (S := fun _ => True) (yieldsIf_move rfl _ rfl (.pointer (some ⟨g, 0, none⟩)) rfl) trivial ?_
    simp only [AP]
    refine wpSeq_wp rfl ?_
    unfold Oper.wp execOp
    go_simp
    refine (FC.out g w10 _ R9).mono ?_
    rintro _ w11 ⟨⟨v7, rfl, S7, NE⟩, R11, GG⟩
    obtain ⟨pv, cv, hv⟩ := S7.shape
    obtain ⟨m, hm⟩ : ∃ m, T5.1.length = m := ⟨_, rfl⟩
    subst hv
    have NE := NE _ _ _ rfl
    rw [hm] at S7
    have K5n : Blk w11 _ _ _ := (GG.block _ K10.lt (fun e => by have := Option.some.inj e; have := NG5.out; omega)).trans K10
    have KRn : Blk w11 _ _ _ := (GG.block _ KR10.lt (fun e => by have := Option.some.inj e; have := NG.out; omega)).trans KR10
    clear K10 KR10
    have K10 := K5n
    have KR10 := KRn
    clear K5n KRn
    have ng : W.heap.size ≤ g := Nat.le_of_lt NG.out
    replace b6 := below_gb b6 GG ng b6.size
    clear GG ng
    clear FC R9
    rw [hm]
    go_simp
    refine wpSeq_yield (S := fun _ => True) (yieldsIf_assign rfl _ rfl (.slice pv m cv) rfl) trivial ?_
    simp only [AP]
    refine wpSeq_nil ?_
    refine (by assumption : ∀ (a : Act) (w : World), _ → _) _ _ ?_
    go_upto_region 9 with fail
    rename_i aK
    refine wp_region_seq ?_
    refine wpSeq_yield (S := fun _ => True) (yieldsIf_assign rfl _ rfl (.int .i64 0) rfl) trivial ?_
    simp only [AP]
    refine wpSeq_nil ?_
    refine (by assumption : ∀ (a : Act) (w : World), _ → _) _ _ ?_
    rw [cert_rowJ (strB T3.1) (padN 32 T4.1) T5.1] at K10
    have HM := Lib.hid hm
    have D := Lib.hid (And.intro K10 (World.grownBy.refl w11 (some g5)))
    have S7 := Lib.hid S7
    have KR10 := Lib.hid KR10
    have b6 := Lib.hid b6
    have R11 := Lib.hid R11
    have AL := Lib.hid (show ([Value.string (strB T3.1)] ++ vals (padN 32 T4.1)).length = 33 by rw [List.length_append, vals_length, LK.out.1]; rfl)
    have RF := Lib.hid (cert_rowF (strB T3.1) (padN 32 T4.1) T5.1)
    clear K10 hm
    generalize hAA : ([Value.string (strB T3.1)] ++ vals (padN 32 T4.1)) = AA at *
    clear hAA
    go_upto_region 10 with fail
    go_loopw [8] (fun v wr => ∃ j : Nat, j ≤ m ∧ v = .int .i64 (j : Int) ∧ Blk wr g5 37 (rowJ AA [] 64 T5.1 j) ∧ w11.grownBy wr (some g5)) (fun v _ => (m - intOf v).toNat)
    case atStart => exact ⟨0, by omega, rfl, D.out.1, D.out.2⟩
    case round =>
      clear D
      obtain ⟨j, jm, rfl, KK, GG⟩ := hrel
      by_cases jj : j = m
      · subst jj
        have jf : ¬ (j : Int) < (j : Int) := by omega
        clear jm
        go_upto_region 10 with fail
        rename_i aK
        refine wp_region_seq ?_
        refine wpSeq_yield (S := fun _ => True) (yieldsIf_move rfl _ rfl (.int .i64 (j : Int)) rfl) trivial ?_
        simp only [AP]
        refine wpSeq_yield (S := fun _ => True) (yieldsIf_move rfl _ rfl (.slice pv j cv) rfl) trivial ?_
        simp only [AP]
        refine wpSeq_yield (S := fun _ => True) (v := .int .i64 (j : Int)) (Or.inl ⟨by rfl, fun w' hw' => by go_simp⟩) trivial ?_
        simp only [AP]
        refine wpSeq_yield (S := fun _ => True) (v := .bool false) (Or.inl ⟨by rfl, fun w' hw' => by (go_simp; try omega)⟩) trivial ?_
        simp only [AP]
        refine wpSeq_nil ?_
        refine (by assumption : ∀ (a : Act) (w : World), _ → _) _ _ ?_
        have KR1 : Blk wr W.heap.size 37 Z := (GG.block _ KR10.out.lt (fun e => by have := Option.some.inj e; have := NG5.out; omega)).trans KR10.out
        have RR := R11.out.other GG (by have := NG5.out; omega) (by have := NG5.out; omega)
        have gg : W.heap.size ≤ g5 := by have := NG5.out; omega
        have b7 := below_gb b6.out GG gg b6.out.size
        have rf := RF.out
        rw [HM.out] at rf
        rw [rf] at KK
        clear GG R11 KR10 b6 jf gg rf
        go_upto_region 13 with fail
        rename_i aK
        refine wp_region_seq ?_
        refine wpSeq_yield (S := fun _ => True) (yieldsIf_move rfl _ rfl (.pointer (some ⟨g, 0, none⟩)) rfl) trivial ?_
        simp only [AP]
        refine wpSeq_wp rfl ?_
        unfold Oper.wp execOp
        go_simp
        refine (WC.out g wr _ RR).mono ?_
        rintro _ w13 ⟨rfl, GG⟩
        have K5n : Blk w13 _ _ _ := (GG.block _ KK.lt (fun e => by have := Option.some.inj e; have := NG5.out; omega)).trans KK
        have KRn : Blk w13 _ _ _ := (GG.block _ KR1.lt (fun e => by have := Option.some.inj e; have := NG.out; omega)).trans KR1
        clear KK KR1
        have KK := K5n
        have KR1 := KRn
        clear K5n KRn
        have ng : W.heap.size ≤ g := Nat.le_of_lt NG.out
        replace b7 := below_gb b7 GG ng b7.size
        clear GG ng
        clear WC RR
        go_simp
        refine wpSeq_yield (S := fun _ => True) (yieldsIf_assign rfl _ rfl (.int .i64 (f : Int)) rfl) trivial ?_
        simp only [AP]
        refine wpSeq_nil ?_
        refine (by assumption : ∀ (a : Act) (w : World), _ → _) _ _ ?_
        have cz := cerV_size (strB T3.1) LK.out.1 LK.out.2.1
        have CZ := info_cerV (strB T3.1) LK.out.1 LK.out.2.1
        have HA := fun XV h => HX.out.ans XV h
        by_cases f0 : f = 0
        · have ha := HA _ (if_pos f0)
          rw [HRS.out, f0] at ha
          replace ha := Lib.hid ha
          subst f0
          clear HA HX HRS
          go_upto_region 14 with fail
          rename_i aK
          refine wp_region_seq ?_
          refine wpSeq_yield (S := fun _ => True) (yieldsIf_move rfl _ rfl (.int .i64 0) rfl) trivial ?_
          simp only [AP]
          refine wpSeq_yield (S := fun _ => True) (v := .bool false) (Or.inl ⟨by rfl, fun w' hw' => by (go_simp; try omega)⟩) trivial ?_
          simp only [AP]
          refine wpSeq_nil ?_
          refine (by assumption : ∀ (a : Act) (w : World), _ → _) _ _ ?_
          go_upto_region 16 with fail
          rename_i aK
          refine wp_region_seq ?_
          refine wpSeq_yield (S := fun w' => w' = w13) (show YieldsIf _ _ _ _ (.agg (cerV (strB T3.1) (padN 32 T4.1) (padN 64 T5.1))) _ from yieldsIf_row_wanted (S := fun w' => w' = w13) rfl 37 _ rfl g5 rfl 37 _ _ (fun _ h => h ▸ KK) Tryd.underlying37 rfl CZ) rfl ?_
          simp only [AP]
          refine wpSeq_store_row rfl 37 _ _ rfl W.heap.size (cerV (strB T3.1) (padN 32 T4.1) (padN 64 T5.1)) rfl rfl _ _ KR1 CZ (by rw [hZ, cz]) (cerV_one _ _ _) ?_
          simp only [Act.put]
          refine wpSeq_yield (S := fun _ => True) (yieldsIf_assign rfl _ rfl (.int .i64 0) rfl) trivial ?_
          simp only [AP]
          refine wpSeq_nil ?_
          refine (by assumption : ∀ (a : Act) (w : World), _ → _) _ _ ?_
          go_wp2
          refine bodyPost_ret (results_cell_tmp rfl _ _ _ 37 _ (0, 0) _ _ rfl (Blk.row KR1 _) Tryd.underlying37 rfl CZ rfl) rfl ?_
          exact ⟨by rw [← ha.out]; rfl, below_setRow b7 (Nat.le_refl _) _⟩
        · have ha := HA _ (if_neg f0)
          rw [HRS.out] at ha
          replace ha := Lib.hid ha
          have f1 : ¬ (f : Int) = 0 := by omega
          clear HA HX HRS f0
          go_upto_region 14 with fail
          rename_i aK
          refine wp_region_seq ?_
          refine wpSeq_yield (S := fun _ => True) (yieldsIf_move rfl _ rfl (.int .i64 (f : Int)) rfl) trivial ?_
          simp only [AP]
          refine wpSeq_yield (S := fun _ => True) (v := .bool true) (Or.inl ⟨by rfl, fun w' hw' => by (go_simp; try omega)⟩) trivial ?_
          simp only [AP]
          refine wpSeq_nil ?_
          refine (by assumption : ∀ (a : Act) (w : World), _ → _) _ _ ?_
          go_upto_region 15 with fail
          rename_i aK
          refine wp_region_seq ?_
          refine wpSeq_yield (S := fun _ => True) (v := .agg (cerV ⟨#[]⟩ z32 z64)) (Or.inl ⟨rfl, fun w' _ => by simp only [execOp, Sem.run_bind, Array.map_empty, run_cert0 w', Result.andThen_ok, Sem.run_pure]⟩) trivial ?_
          simp only [AP]
          refine wpSeq_yield (S := fun _ => True) (yieldsIf_move rfl _ rfl (.int .i64 (f : Int)) rfl) trivial ?_
          simp only [AP]
          refine wpSeq_store_row rfl 37 _ _ rfl W.heap.size (cerV ⟨#[]⟩ z32 z64) rfl rfl _ _ KR1 CZ0 (by rw [hZ, cz0]) (cerV_one _ _ _) ?_
          simp only [Act.put]
          refine wpSeq_yield (S := fun _ => True) (yieldsIf_assign rfl _ rfl (.int .i64 (f : Int)) rfl) trivial ?_
          simp only [AP]
          refine wpSeq_nil ?_
          refine (by assumption : ∀ (a : Act) (w : World), _ → _) _ _ ?_
          go_wp2
          refine bodyPost_ret (results_cell_tmp rfl _ _ _ 37 _ (0, 0) _ _ rfl (Blk.row KR1 _) Tryd.underlying37 rfl CZ0 rfl) rfl ?_
          exact ⟨by rw [← ha.out]; rfl, below_setRow b7 (Nat.le_refl _) _⟩
      · have jl : j < m := by omega
        have jl' : j < T5.1.length := by rw [HM.out]; exact jl
        have SV : SB wr (.slice pv m cv) T5.1 := S7.out.keepL NE (fun k hk h0 => GG.block k hk (fun e => by have := Option.some.inj e; have := NG5.out; omega))
        obtain ⟨gb, ob, hpv, A⟩ : ∃ gb ob, pv = some ⟨gb, ob, none⟩ ∧ BA wr gb ob T5.1 := by
          rcases SV.at_ with h | h
          · omega
          · exact h
        subst hpv
        have cb := A.cell j jl'
        obtain ⟨x, hx⟩ : ∃ x, T5.1[j]'jl' = x := ⟨_, rfl⟩
        have ck := rowJ_cell (k := j) AL.out LK.out.2.2 (by have := LK.out.2.2; omega) KK
        obtain ⟨u, cu⟩ := Option.isSome_iff_exists.1 ck
        have fk := KK.frozen (33 + j)
        have KS := rowJ_step AL.out LK.out.2.2 jl' KK
        have GS := gb_tr GG (gb_set2 wr g5 (33 + j) (.int .u8 ((T5.1[j]'jl' : Nat) : Int)))
        rw [hx] at cb KS GS
        have D := Lib.hid (And.intro KS GS)
        have z1 : (j : Int) < (m : Int) := by omega
        have z2 : (j : Int) < 64 := by have := LK.out.2.2; have := HM.out; omega
        have z0 : (0 : Int) ≤ (j : Int) := by omega
        have e5 : IntKind.i64.wrap ((j : Int) + 1) = ((j + 1 : Nat) : Int) := by have := LK.out.2.2; have := HM.out; rw [IntKind.wrap_i64]; omega
        have e5 := Lib.hid e5
        clear A SV KS GS KK GG hx jl' ck
        go_upto_region 10 with fail
        rename_i aK
        refine wp_region_seq ?_
        refine wpSeq_yield (S := fun _ => True) (yieldsIf_move rfl _ rfl (.int .i64 (j : Int)) rfl) trivial ?_
        simp only [AP]
        refine wpSeq_yield (S := fun _ => True) (yieldsIf_move rfl _ rfl (.slice (some ⟨gb, ob, none⟩) m cv) rfl) trivial ?_
        simp only [AP]
        refine wpSeq_yield (S := fun _ => True) (v := .int .i64 (m : Int)) (Or.inl ⟨by rfl, fun w' hw' => by go_simp⟩) trivial ?_
        simp only [AP]
        refine wpSeq_yield (S := fun _ => True) (v := .bool true) (Or.inl ⟨by rfl, fun w' hw' => by (go_simp; try omega)⟩) trivial ?_
        simp only [AP]
        refine wpSeq_nil ?_
        refine (by assumption : ∀ (a : Act) (w : World), _ → _) _ _ ?_
        go_upto_region 12 with fail
        rename_i aK
        refine wp_region_seq ?_
        refine wpSeq_yield (S := fun _ => True) (yieldsIf_move rfl _ rfl (.int .i64 (j : Int)) rfl) trivial ?_
        simp only [AP]
        refine wpSeq_yield (S := fun _ => True) (yieldsIf_move rfl _ rfl (.slice (some ⟨gb, ob, none⟩) m cv) rfl) trivial ?_
        simp only [AP]
        refine wpSeq_yield (S := fun _ => True) (yieldsIf_move rfl _ rfl (.int .i64 (j : Int)) rfl) trivial ?_
        simp only [AP]
        refine wpSeq_yield (S := fun _ => True) (v := .pointer (some ⟨gb, ob + j, none⟩)) (Or.inl ⟨by rfl, fun w' hw' => by (go_simp)⟩) trivial ?_
        simp only [AP]
        refine wpSeq_yield (S := fun w' => w' = wr) (v := .int .u8 (x : Int)) (Or.inl ⟨by rfl, fun w' hw' => by (rw [hw']; go_simp)⟩) rfl ?_
        simp only [AP]
        refine wpSeq_yield (S := fun _ => True) (v := .pointer (some ⟨g5, 33, none⟩)) (Or.inl ⟨by rfl, fun w' hw' => by (go_simp)⟩) trivial ?_
        simp only [AP]
        refine wpSeq_yield (S := fun _ => True) (v := .pointer (some ⟨g5, 33 + j, none⟩)) (Or.inl ⟨by rfl, fun w' hw' => by (go_simp)⟩) trivial ?_
        simp only [AP]
        refine wpSeq_wp rfl ?_
        unfold Oper.wp execOp
        go_simp
        refine wpSeq_nil ?_
        refine (by assumption : ∀ (a : Act) (w : World), _ → _) _ _ ?_
        clear cb cu fk
        have e5 := e5.out
        go_upto_region 11 with fail
        rename_i aK
        refine wp_region_seq ?_
        refine wpSeq_yield (S := fun _ => True) (yieldsIf_move rfl _ rfl (.int .i64 (j : Int)) rfl) trivial ?_
        simp only [AP]
        refine wpSeq_yield (S := fun _ => True) (v := .int .i64 ((j + 1 : Nat) : Int)) (Or.inl ⟨by rfl, fun w' hw' => by go_simp⟩) trivial ?_
        simp only [AP]
        refine wpSeq_yield (S := fun _ => True) (yieldsIf_assign rfl _ rfl (.int .i64 ((j + 1 : Nat) : Int)) rfl) trivial ?_
        simp only [AP]
        refine wpSeq_nil ?_
        go_wp2
        exact ⟨⟨j + 1, by omega, rfl, D.out.1, D.out.2⟩, by simp only [intOf]; omega⟩
  clear aJ DC KC FC WC
  have HF := HX.out.fits
  by_cases y1 : y < 1
  · have y0 : y = 0 := by omega
    have z1 : (y : Int) < 1 := by omega
    rw [if_neg (by omega)] at HF
    have FL := rfail_m W.heap.size g (some ⟨g, 0, none⟩) l1 c1 2 w5 R5
    rw [HF] at FL
    have FL := Lib.hid FL
    clear HF R5 y0 y1
    go_upto_region 4 with fail
    rename_i aK
    refine wp_region_seq ?_
    refine wpSeq_yield (S := fun _ => True) (yieldsIf_move rfl _ rfl (.int .u64 (y : Int)) rfl) trivial ?_
    simp only [AP]
    refine wpSeq_yield (S := fun _ => True) (v := .bool true) (Or.inl ⟨by rfl, fun w' hw' => by (go_simp; try omega)⟩) trivial ?_
    simp only [AP]
    refine wpSeq_yield (S := fun _ => True) (yieldsIf_move rfl _ rfl (.bool true) rfl) trivial ?_
    simp only [AP]
    refine wpSeq_yield (S := fun _ => True) (yieldsIf_off rfl) trivial ?_
    simp only [AP]
    refine wpSeq_yield (S := fun _ => True) (yieldsIf_off rfl) trivial ?_
    simp only [AP]
    refine wpSeq_yield (S := fun _ => True) (yieldsIf_pick rfl _ _ _ rfl true rfl (.bool true) rfl) trivial ?_
    simp only [AP]
    refine wpSeq_nil ?_
    refine (by assumption : ∀ (a : Act) (w : World), _ → _) _ _ ?_
    go_upto_region 5 with fail
    rename_i aK
    refine wp_region_seq ?_
    refine wpSeq_yield (S := fun _ => True) (yieldsIf_move rfl _ rfl (.pointer (some ⟨g, 0, none⟩)) rfl) trivial ?_
    simp only [AP]
    refine wpSeq_wp rfl ?_
    unfold Oper.wp execOp
    go_simp
    refine FL.out.mono ?_
    rintro _ w6 ⟨⟨v24, rfl⟩, R6, GG⟩
    have K5n : Blk w6 _ _ _ := (GG.block _ K5.lt (fun e => by have := Option.some.inj e; have := NG5.out; omega)).trans K5
    have KRn : Blk w6 _ _ _ := (GG.block _ KR.lt (fun e => by have := Option.some.inj e; have := NG.out; omega)).trans KR
    clear K5 KR
    have K5 := K5n
    have KR := KRn
    clear K5n KRn
    have ng : W.heap.size ≤ g := Nat.le_of_lt NG.out
    replace b0 := below_gb b0 GG ng b0.size
    clear GG ng
    clear FL
    go_simp
    refine wpSeq_nil ?_
    go_wp2
    exact AK _ _ _ _ _ _ _ _ w6 R6 K5 KR b0
  by_cases y2 : 32 < y
  · have z1 : ¬ (y : Int) < 1 := by omega
    have z2 : (32 : Int) < (y : Int) := by omega
    rw [if_neg (by omega)] at HF
    have FL := rfail_m W.heap.size g (some ⟨g, 0, none⟩) l1 c1 2 w5 R5
    rw [HF] at FL
    have FL := Lib.hid FL
    clear HF R5 y2 y1
    go_upto_region 4 with fail
    rename_i aK
    refine wp_region_seq ?_
    refine wpSeq_yield (S := fun _ => True) (yieldsIf_move rfl _ rfl (.int .u64 (y : Int)) rfl) trivial ?_
    simp only [AP]
    refine wpSeq_yield (S := fun _ => True) (v := .bool false) (Or.inl ⟨by rfl, fun w' hw' => by (go_simp; try omega)⟩) trivial ?_
    simp only [AP]
    refine wpSeq_yield (S := fun _ => True) (yieldsIf_move rfl _ rfl (.bool false) rfl) trivial ?_
    simp only [AP]
    refine wpSeq_yield (S := fun _ => True) (yieldsIf_move rfl _ rfl (.int .u64 (y : Int)) rfl) trivial ?_
    simp only [AP]
    refine wpSeq_yield (S := fun _ => True) (v := .bool true) (Or.inl ⟨by rfl, fun w' hw' => by (go_simp; try omega)⟩) trivial ?_
    simp only [AP]
    refine wpSeq_yield (S := fun _ => True) (yieldsIf_pick rfl _ _ _ rfl false rfl (.bool true) rfl) trivial ?_
    simp only [AP]
    refine wpSeq_nil ?_
    refine (by assumption : ∀ (a : Act) (w : World), _ → _) _ _ ?_
    go_upto_region 5 with fail
    rename_i aK
    refine wp_region_seq ?_
    refine wpSeq_yield (S := fun _ => True) (yieldsIf_move rfl _ rfl (.pointer (some ⟨g, 0, none⟩)) rfl) trivial ?_
    simp only [AP]
    refine wpSeq_wp rfl ?_
    unfold Oper.wp execOp
    go_simp
    refine FL.out.mono ?_
    rintro _ w6 ⟨⟨v24, rfl⟩, R6, GG⟩
    have K5n : Blk w6 _ _ _ := (GG.block _ K5.lt (fun e => by have := Option.some.inj e; have := NG5.out; omega)).trans K5
    have KRn : Blk w6 _ _ _ := (GG.block _ KR.lt (fun e => by have := Option.some.inj e; have := NG.out; omega)).trans KR
    clear K5 KR
    have K5 := K5n
    have KR := KRn
    clear K5n KRn
    have ng : W.heap.size ≤ g := Nat.le_of_lt NG.out
    replace b0 := below_gb b0 GG ng b0.size
    clear GG ng
    clear FL
    go_simp
    refine wpSeq_nil ?_
    go_wp2
    exact AK _ _ _ _ _ _ _ _ w6 R6 K5 KR b0
  have z1 : ¬ (y : Int) < 1 := by omega
  have z2 : ¬ (32 : Int) < (y : Int) := by omega
  rw [if_pos (by omega)] at HF
  subst HF
  clear y2 y1
  go_upto_region 4 with fail
  rename_i aK
  refine wp_region_seq ?_
  refine wpSeq_yield (S := fun _ => True) (yieldsIf_move rfl _ rfl (.int .u64 (y : Int)) rfl) trivial ?_
  simp only [AP]
  refine wpSeq_yield (S := fun _ => True) (v := .bool false) (Or.inl ⟨by rfl, fun w' hw' => by (go_simp; try omega)⟩) trivial ?_
  simp only [AP]
  refine wpSeq_yield (S := fun _ => True) (yieldsIf_move rfl _ rfl (.bool false) rfl) trivial ?_
  simp only [AP]
  refine wpSeq_yield (S := fun _ => True) (yieldsIf_move rfl _ rfl (.int .u64 (y : Int)) rfl) trivial ?_
  simp only [AP]
  refine wpSeq_yield (S := fun _ => True) (v := .bool false) (Or.inl ⟨by rfl, fun w' hw' => by (go_simp; try omega)⟩) trivial ?_
  simp only [AP]
  refine wpSeq_yield (S := fun _ => True) (yieldsIf_pick rfl _ _ _ rfl false rfl (.bool false) rfl) trivial ?_
  simp only [AP]
  refine wpSeq_nil ?_
  refine (by assumption : ∀ (a : Act) (w : World), _ → _) _ _ ?_
  go_wp2
  exact AK _ _ _ _ _ _ _ _ w5 R5 K5 KR b0
end Go.Proofs.YtegbnadnodlalaaDoor
