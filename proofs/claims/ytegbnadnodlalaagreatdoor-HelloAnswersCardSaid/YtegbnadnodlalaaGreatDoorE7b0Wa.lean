/- The reference's key and Cert (printed by gen14/en.py). The reference's Cert (printed by gen14/eo.py). Certificates held against each other. Law HelloCerts by contract (printed by gen14/eq.py). Answers and parameters in memory. -/
import Derived.Test.YtegbnadnodlalaaGreatDoorE6a0E6c
import Derived.Test.YtegbnadnodlalaaGreatDoorRn0E3a
import Derived.Test.YtegbnadnodlalaaGreatDoorGFd0GFf
import Derived.Laws.StructEq
import Derived.Test.YtegbnadnodlalaaGreatDoorE3c0E4a
import Derived.Test.YtegbnadnodlalaaGreatDoorE8a
namespace Go.Proofs.YtegbnadnodlalaaGreatDoor
open Go.RowKit
theorem pad_zero (n : Nat) (R : List Nat) : padN n (R.take 0) = List.replicate n 0 := by simp [padN]
theorem pad_set {n : Nat} {R : List Nat} (hR : R.length ≤ n) {j : Nat} (hj : j < R.length) : (padN n (R.take j)).set j R[j] = padN n (R.take (j + 1)) := by
 unfold padN
 have l1 : (R.take j).length = j := by rw [List.length_take]; omega
 have l2 : (R.take (j + 1)).length = j + 1 := by rw [List.length_take]; omega
 rw [l1, l2, List.set_append_right _ _ (by omega), l1, Nat.sub_self, show n - j = (n - (j + 1)) + 1 by omega, List.replicate_succ, List.set_cons_zero, ← List.take_append_getElem hj, List.append_assoc]
 rfl
theorem row_set (A B : List Value) (L : List Nat) (off j x : Nat) (hA : A.length = off) (hj : j < L.length) : (A ++ (vals L ++ B)).set (off + j) (.int .u8 (x : Int)) = A ++ (vals (L.set j x) ++ B) := by
 rw [List.set_append_right _ _ (by omega), hA, Nat.add_sub_cancel_left, List.set_append_left _ _ (by rw [vals_length]; exact hj)]
 congr 2
 unfold vals
 rw [List.map_set]
/-- A row into which the first j of the bytes R are put, from off on. -/
def rowJ (A B : List Value) (n : Nat) (R : List Nat) (j : Nat) : Array Value := (A ++ (vals (padN n (R.take j)) ++ B)).toArray
theorem rowJ_size (A B : List Value) {n : Nat} {R : List Nat} (hR : R.length ≤ n) (j : Nat) : (rowJ A B n R j).size = A.length + (n + B.length) := by
 unfold rowJ
 rw [List.size_toArray, List.length_append, List.length_append, vals_length, padN_length (by rw [List.length_take]; omega)]
theorem rowJ_step {w : World} {g : Nat} {ty : TypeId} {A B : List Value} {n off : Nat} {R : List Nat} {j : Nat} (hA : A.length = off) (hR : R.length ≤ n) (hj : j < R.length) (h : Blk w g ty (rowJ A B n R j)) : Blk (w.setCell ⟨g, off + j, none⟩ (.int .u8 ((R[j] : Nat) : Int))) g ty (rowJ A B n R (j + 1)) := by
 have h1 := Blk.set h (off + j) (.int .u8 ((R[j] : Nat) : Int))
 unfold rowJ at h1 ⊢
 rw [List.setIfInBounds_toArray, row_set A B _ off j R[j] hA (by rw [padN_length (by rw [List.length_take]; omega)]; omega), pad_set hR hj] at h1
 exact h1
theorem rowJ_cell {w : World} {g : Nat} {ty : TypeId} {A B : List Value} {n off : Nat} {R : List Nat} {j k : Nat} (hA : A.length = off) (hR : R.length ≤ n) (hk : k < n) (h : Blk w g ty (rowJ A B n R j)) : (w.cell? ⟨g, off + k, none⟩).isSome = true := by
 rw [h.cell, Array.getElem?_eq_getElem (by rw [rowJ_size A B hR]; omega)]
 rfl
theorem rowJ_full (A B : List Value) (n : Nat) (R : List Nat) : rowJ A B n R R.length = (A ++ (vals (padN n R) ++ B)).toArray := by
 unfold rowJ
 rw [List.take_length]
theorem gb_set2 (w : World) (g i : Nat) (v : Value) : w.grownBy (w.setCell ⟨g, i, none⟩ v) (some g) := gb_set rfl w i v
theorem key_row (R : List Nat) : (([] : List Value) ++ (vals (padN 32 R) ++ [])).toArray = Iv .u8 (NI (padN 32 R)) := by
 rw [vals_iv]
 simp
theorem zeros_row (R : List Nat) : (vals (List.replicate 32 0)).toArray = rowJ [] [] 32 R 0 := by
 unfold rowJ
 rw [pad_zero]
 simp
set_option maxHeartbeats 8000000 in
set_option maxRecDepth 100000 in
theorem rkey_m (B0 B : Nat) (p : Option Addr) (l : List Nat) (c : Nat) (W : World) (h : RX B0 B W p l c) :
  Calls Tryz.prog 25 #[.pointer p] W fun e w' => e = .returned (.agg (Iv .u8 (NI (padN 32 (tookS 32 l c).1)))) ∧ RX B0 B w' p (tookS 32 l c).2.1 (tookS 32 l c).2.2 ∧ W.grownBy w' (some B) := by
 have BC := Lib.hid (fun (w : World) (h : RX B0 B w p l c) => rbytes_m B0 B p l 32 c w h)
 have RL := tookS_len 32 l c
 have LP := padN_length RL
 generalize tookS 32 l c = T at *
 have HB := Lib.hid (And.intro h.lt h.lo)
 have H := Lib.hid h
 have KR32 := key_row T.1
 have ZR := Lib.hid (zeros_row T.1)
 have RL := Lib.hid RL
 rw [← KR32]
 have iz : (Tryz.prog.info? 23).map (·.size) = some (([] : List Value) ++ (vals (padN 32 T.1) ++ [])).toArray.size := by rw [KR32, Iv_size, NI_length, LP]; kernel_rfl
 have rs := rowJ_full [] [] 32 T.1
 rw [← rs] at iz ⊢
 have o1 : (rowJ [] [] 32 T.1 T.1.length).all (·.oneCell') = true := by rw [rs, KR32]; exact u8_ones _
 have zs := rowJ_size [] [] RL.out T.1.length
 have O1 := Lib.hid o1
 have zs : (rowJ [] [] 32 T.1 T.1.length).size = 32 := zs
 clear h KR32 LP rs o1
 go_enter Tryz.func25, Tryz.ntmps25
 go_upto_region 0 with fail
 rename_i aK
 refine wp_region_seq ?_
 refine wpSeq_wp rfl ?_
 unfold Oper.wp execOp
 go_simp
 refine wpSeq_nil ?_
 refine aK _ _ ?_
 clear aK
 generalize hW : World.alloc W _ = w1
 obtain ⟨Z, hZ, KR, b0⟩ : ∃ Z : Array Value, Z.size = 32 ∧ Blk w1 W.heap.size 23 Z ∧ Below W.heap.size W w1 := by
  rw [← hW]
  exact ⟨_, rfl, Blk.new _ _ _, (Below.refl _ _).alloc (Nat.le_refl _) _⟩
 clear hW
 go_upto_region 1 with fail
 rename_i aK
 refine wp_region_seq ?_
 refine wpSeq_wp rfl ?_
 unfold Oper.wp execOp
 go_simp
 generalize hW : World.alloc w1 _ = w2
 obtain ⟨KK, b3⟩ : Blk w2 w1.heap.size 23 (vals (List.replicate 32 0)).toArray ∧ Below w1.heap.size w1 w2 := by
  rw [← hW]
  exact ⟨Blk.new _ _ _, (Below.refl _ _).alloc (Nat.le_refl _) _⟩
 clear hW
 have NG := Lib.hid (show W.heap.size < w1.heap.size from KR.lt)
 replace KR := KR.below' b3
 replace b0 := b0.trans (b3.mono b0.size)
 clear b3
 obtain ⟨g3, hg3⟩ : ∃ g, w1.heap.size = g := ⟨_, rfl⟩
 rw [hg3] at KK NG ⊢
 clear hg3
 refine wpSeq_nil ?_
 refine (by assumption : ∀ (a : Act) (w : World), _ → _) _ _ ?_
 go_upto_region 2 with fail
 rename_i aK
 refine wp_region_seq ?_
 refine smv (.pointer p) rfl rfl rfl ?_
 simp only [AP]
 refine wpSeq_wp rfl ?_
 unfold Oper.wp execOp
 go_simp
 refine (BC.out w2 (H.out.below b0)).mono ?_
 rintro _ w4 ⟨⟨v4, rfl, S4, NE⟩, R4, G4⟩
 obtain ⟨pv, cv, hv⟩ := S4.shape
 obtain ⟨m, hm⟩ : ∃ m, T.1.length = m := ⟨_, rfl⟩
 subst hv
 have NE := NE _ _ _ rfl
 rw [hm] at S4
 replace KK : Blk w4 g3 23 (vals (List.replicate 32 0)).toArray := (G4.block _ KK.lt (fun e => by have := Option.some.inj e; have := HB.out; have := NG.out; omega)).trans KK
 replace KR : Blk w4 W.heap.size 23 Z := (G4.block _ KR.lt (fun e => by have := Option.some.inj e; have := HB.out; omega)).trans KR
 have TW := gb_tr (gb_below b0 (some B)) G4
 clear BC G4 b0
 rw [hm]
 go_simp
 refine sas (.slice pv m cv) rfl rfl rfl ?_
 simp only [AP]
 refine wpSeq_nil ?_
 refine (by assumption : ∀ (a : Act) (w : World), _ → _) _ _ ?_
 go_upto_region 3 with fail
 rename_i aK
 refine wp_region_seq ?_
 refine sas (.int .i64 0) rfl rfl rfl ?_
 simp only [AP]
 refine wpSeq_nil ?_
 refine (by assumption : ∀ (a : Act) (w : World), _ → _) _ _ ?_
 rw [ZR.out] at KK
 rw [hm] at zs iz O1
 have HM := Lib.hid hm
 have D := Lib.hid (And.intro KK (World.grownBy.refl w4 (some g3)))
 have S4 := Lib.hid S4
 have KR := Lib.hid KR
 have TW := Lib.hid TW
 have R4 := Lib.hid R4
 clear KK hm ZR
 go_upto_region 4 with fail
 go_loopw [5] (fun v wr => ∃ j : Nat, j ≤ m ∧ v = .int .i64 (j : Int) ∧ Blk wr g3 23 (rowJ [] [] 32 T.1 j) ∧ w4.grownBy wr (some g3)) (fun v _ => (m - intOf v).toNat)
 case atStart => exact ⟨0, by omega, rfl, D.out.1, D.out.2⟩
 case round =>
  clear D
  obtain ⟨j, jm, rfl, KK, GG⟩ := hrel
  by_cases jj : j = m
  ·
   subst jj
   have jf : ¬ (j : Int) < (j : Int) := by omega
   clear jm
   go_upto_region 4 with fail
   rename_i aK
   refine wp_region_seq ?_
   refine smv (.int .i64 (j : Int)) rfl rfl rfl ?_
   simp only [AP]
   refine smv (.slice pv j cv) rfl rfl rfl ?_
   simp only [AP]
   refine svl (.int .i64 (j : Int)) (.inl ⟨by rfl, fun w' _ => by go_simp⟩) ?_
   simp only [AP]
   refine svl (.bool false) (.inl ⟨by rfl, fun w' _ => by (go_simp; try omega)⟩) ?_
   simp only [AP]
   refine wpSeq_nil ?_
   refine (by assumption : ∀ (a : Act) (w : World), _ → _) _ _ ?_
   have KR1 : Blk wr W.heap.size 23 Z := (GG.block _ KR.out.lt (fun e => by have := Option.some.inj e; have := NG.out; omega)).trans KR.out
   have RR := R4.out.other GG (by have := NG.out; have := HB.out; have := H.out.lo; omega) (by have := NG.out; have := HB.out; omega)
   have TW2 : W.grownBy wr (some B) := ⟨GG.os.trans TW.out.os, GG.tape.trans TW.out.tape, GG.output.trans TW.out.output, Nat.le_trans TW.out.size GG.size, fun k hk hne => (GG.block k (Nat.lt_of_lt_of_le hk TW.out.size) (fun e => by have := Option.some.inj e; have := NG.out; omega)).trans (TW.out.block k hk hne)⟩
   clear GG R4 KR TW jf
   go_upto_region 7 with fail
   rename_i aK
   refine wp_region_seq ?_
   refine wpSeq_yield (S := fun w' => w' = wr) (show YieldsIf _ _ _ _ (.agg (rowJ [] [] 32 T.1 j)) _ from yieldsIf_row_wanted (S := fun w' => w' = wr) rfl 23 _ rfl g3 rfl 23 _ _ (fun _ h => h ▸ KK) Tryz.underlying23 rfl iz) rfl ?_
   simp only [AP]
   refine wpSeq_store_row rfl 23 _ _ rfl W.heap.size (rowJ [] [] 32 T.1 j) rfl rfl _ _ KR1 iz (by rw [hZ, zs]) O1.out ?_
   simp only [Act.put]
   refine wpSeq_nil ?_
   refine (by assumption : ∀ (a : Act) (w : World), _ → _) _ _ ?_
   have RM5 := RR.other (grown_one wr W.heap.size (rowJ [] [] 32 T.1 j)) (by have := HB.out; omega) (by have := HB.out; omega)
   have G5 : W.grownBy (wr.setRow W.heap.size (rowJ [] [] 32 T.1 j)) (some B) := ⟨TW2.os, TW2.tape, TW2.output, by rw [setRow_size]; exact TW2.size, fun k hk hne => (setRow_other wr _ k _ (by omega)).trans (TW2.block k hk hne)⟩
   go_wp2
   rw [HM.out]
   exact bodyPost_ret (results_cell_row rfl _ _ _ 23 _ (0, 0) _ rfl (Blk.row KR1 _) Tryz.underlying23 rfl iz) rfl ⟨rfl, RM5, G5⟩
  ·
   have jl : j < m := by omega
   have jl' : j < T.1.length := by rw [HM.out]; exact jl
   have SV : SB wr (.slice pv m cv) T.1 := S4.out.keepL NE (fun k hk h0 => GG.block k hk (fun e => by have := Option.some.inj e; have := NG.out; have := HB.out; omega))
   obtain ⟨gb, ob, hpv, A⟩ : ∃ gb ob, pv = some ⟨gb, ob, none⟩ ∧ BA wr gb ob T.1 := by
    rcases SV.at_ with h | h
    · omega
    · exact h
   subst hpv
   have cb := A.cell j jl'
   obtain ⟨x, hx⟩ : ∃ x, T.1[j]'jl' = x := ⟨_, rfl⟩
   have ck := rowJ_cell (k := j) (off := 0) rfl RL.out (by have := RL.out; omega) KK
   have fk := KK.frozen (0 + j)
   have KS := rowJ_step (off := 0) rfl RL.out jl' KK
   have GS := gb_tr GG (gb_set2 wr g3 (0 + j) (.int .u8 ((T.1[j]'jl' : Nat) : Int)))
   rw [hx] at cb KS GS
   rw [Nat.zero_add] at ck fk KS GS
   have D := Lib.hid (And.intro KS GS)
   have z1 : (j : Int) < (m : Int) := by omega
   have z2 : (j : Int) < 32 := by have := RL.out; omega
   have z0 : (0 : Int) ≤ (j : Int) := by omega
   have e5 : IntKind.i64.wrap ((j : Int) + 1) = ((j + 1 : Nat) : Int) := by have := RL.out; rw [IntKind.wrap_i64]; omega
   have e5 := Lib.hid e5
   obtain ⟨u, cu⟩ := Option.isSome_iff_exists.1 ck
   clear A SV KS GS KK GG hx jl' ck
   go_upto_region 4 with fail
   rename_i aK
   refine wp_region_seq ?_
   refine smv (.int .i64 (j : Int)) rfl rfl rfl ?_
   simp only [AP]
   refine smv (.slice (some ⟨gb, ob, none⟩) m cv) rfl rfl rfl ?_
   simp only [AP]
   refine svl (.int .i64 (m : Int)) (.inl ⟨by rfl, fun w' _ => by go_simp⟩) ?_
   simp only [AP]
   refine svl (.bool true) (.inl ⟨by rfl, fun w' _ => by (go_simp; try omega)⟩) ?_
   simp only [AP]
   refine wpSeq_nil ?_
   refine (by assumption : ∀ (a : Act) (w : World), _ → _) _ _ ?_
   go_upto_region 6 with fail
   rename_i aK
   refine wp_region_seq ?_
   refine smv (.int .i64 (j : Int)) rfl rfl rfl ?_
   simp only [AP]
   refine smv (.slice (some ⟨gb, ob, none⟩) m cv) rfl rfl rfl ?_
   simp only [AP]
   refine smv (.int .i64 (j : Int)) rfl rfl rfl ?_
   simp only [AP]
   refine svl (.pointer (some ⟨gb, ob + j, none⟩)) (.inl ⟨by rfl, fun w' _ => by (go_simp)⟩) ?_
   simp only [AP]
   refine wpSeq_yield (S := fun w' => w' = wr) (v := .int .u8 (x : Int)) (Or.inl ⟨by rfl, fun w' hw' => by (rw [hw']; go_simp)⟩) rfl ?_
   simp only [AP]
   refine svl (.pointer (some ⟨g3, j, none⟩)) (.inl ⟨by rfl, fun w' _ => by (go_simp)⟩) ?_
   simp only [AP]
   refine wpSeq_wp rfl ?_
   unfold Oper.wp execOp
   go_simp
   refine wpSeq_nil ?_
   refine (by assumption : ∀ (a : Act) (w : World), _ → _) _ _ ?_
   clear cb cu fk
   have e5 := e5.out
   go_upto_region 5 with fail
   rename_i aK
   refine wp_region_seq ?_
   refine smv (.int .i64 (j : Int)) rfl rfl rfl ?_
   simp only [AP]
   refine svl (.int .i64 ((j + 1 : Nat) : Int)) (.inl ⟨by rfl, fun w' _ => by go_simp⟩) ?_
   simp only [AP]
   refine sas (.int .i64 ((j + 1 : Nat) : Int)) rfl rfl rfl ?_
   simp only [AP]
   refine wpSeq_nil ?_
   go_wp2
   exact ⟨⟨j + 1, by omega, rfl, D.out.1, D.out.2⟩, by simp only [intOf]; omega⟩
end Go.Proofs.YtegbnadnodlalaaGreatDoor
namespace Go.Proofs.YtegbnadnodlalaaGreatDoor
open Go.RowKit
theorem gb_cells (w : World) (g : Nat) (vs : List Value) (o : Nat) : w.grownBy (w.setCells g o vs) (some g) := by
 have h : ∀ (vs : List Value) (o : Nat) (w0 : World), w.grownBy w0 (some g) → w.grownBy (w0.setCells g o vs) (some g) := by
  intro vs
  induction vs with
  | nil => exact fun _ _ h => h
  | cons v r ih => exact fun o w0 h => ih (o + 1) _ (gb_tr h (gb_set2 w0 g o v))
 exact h vs o w (World.grownBy.refl _ _)
end Go.Proofs.YtegbnadnodlalaaGreatDoor
namespace Go.Proofs.YtegbnadnodlalaaGreatDoor
open Go.RowKit
theorem eqF_step {P : Program} (f : Field) (fs : List Field) (xs ys : Array Value) (d : Nat) (w : World) (hn : f.name ≠ "_") (a b : Value) (ha : (part f.type xs f.offset).run P w = .ok a w) (hb : (part f.type ys f.offset).run P w = .ok b w) (he : (Op.equalIn d f.type a b).run P w = .ok true w) :
  (Op.eqFields d xs ys (f :: fs)).run P w = (Op.eqFields d xs ys fs).run P w := by
 simp [Op.eqFields, hn, ha, hb, he]
theorem part_row (t : TypeId) (n : Nat) (cs : Array Value) (off : Nat) (w : World) (d : TypeDesc) (hu : Tryz.prog.underlying t = some d) (hd : d.isRow = true) (hi : (Tryz.prog.info? t).map (·.size) = some n) : (part t cs off).run Tryz.prog w = .ok (.agg (cs.extract off (off + n))) w := by
 cases h : Tryz.prog.info? t with
 | none => rw [h] at hi; cases hi
 | some i =>
  rw [h] at hi
  simp only [Option.map_some, Option.some.injEq] at hi
  cases d <;> simp [TypeDesc.isRow] at hd <;> simp [part, isAgg, run_underlying hu, sizeOf, typeInfo, h, hi]
theorem eq_key9 (l : List Nat) (h : l.length = 32) (w : World) : (Op.equalIn 9999 23 (.agg (Iv .u8 (NI l))) (.agg (Iv .u8 (NI l)))).run Tryz.prog w = .ok true w := by
 obtain ⟨i, hi⟩ : ∃ i, Tryz.prog.info? 5 = some i := info_of_underlying Tryz.underlying5
 have e := run_eq_ints w 9997 (n := 32) (e := 5) (k := .u8) Tryz.underlying23 hi Tryz.underlying5 (by kernel_rfl) (by kernel_rfl) (NI l) (NI l) (by rw [NI_length]; exact h) (by rw [NI_length]; exact h)
 rw [decide_eq_true rfl] at e
 exact e
end Go.Proofs.YtegbnadnodlalaaGreatDoor
namespace Go.Proofs.YtegbnadnodlalaaGreatDoor
open Go.RowKit
/-- What place j of a slice of slices reads. -/
structure ZA (w : World) (p : Option Addr) (j : Nat) (z : List Nat) : Prop where
 ex : ∃ g o q k, p = some ⟨g, o, none⟩ ∧ g < w.heap.size ∧ w.cell? ⟨g, o + j, none⟩ = some (.slice q z.length k) ∧ SB w (.slice q z.length k) z
 by_ : Bytes z
 len : z.length ≤ 1000000
theorem ZA.one {w : World} {g : Nat} {q : Option Addr} {k : Nat} {z : List Nat} (h : Blk w g 29 #[.slice q z.length k]) (s : SB w (.slice q z.length k) z) (hb : Bytes z) (hl : z.length ≤ 1000000) (j : Nat) (hj : j < 1) : ZA w (some ⟨g, 0, none⟩) j z := by
 obtain rfl : j = 0 := by omega
 exact ⟨⟨g, 0, q, k, rfl, h.lt, h.cell 0, s⟩, hb, hl⟩
end Go.Proofs.YtegbnadnodlalaaGreatDoor
namespace Go.Proofs.YtegbnadnodlalaaGreatDoor
open Go.RowKit
/-! Parameters. -/
def parV (a b c d : Nat) : Array Value := #[.int .u64 ((a : Nat) : Int), .int .u64 ((b : Nat) : Int), .int .u64 ((c : Nat) : Int), .int .u64 ((d : Nat) : Int)]
theorem parV_one (a b c d : Nat) : (parV a b c d).all (·.oneCell') = true := by simp [parV, Value.oneCell']
theorem info_par : (Tryz.prog.info? 28).map (·.size) = some 4 := by kernel_rfl
theorem info_parV {CV : Array Value} (h : CV.size = 4) : (Tryz.prog.info? 28).map (·.size) = some CV.size := by rw [h]; exact info_par
/-! Answers. -/
def ansL (r s : List Nat) (q : Bool) : List Value := vals r ++ (vals s ++ ([.bool q] ++ []))
def ansV (r s : List Nat) (q : Bool) : Array Value := (ansL r s q).toArray
theorem ansV_size {r s : List Nat} (hr : r.length = 32) (hs : s.length = 32) (q : Bool) : (ansV r s q).size = 65 := by simp [ansV, ansL, vals_length, hr, hs]
theorem ansV_one (r s : List Nat) (q : Bool) : (ansV r s q).all (·.oneCell') = true := all_oneCell_toArray fun v hv => by
 simp only [ansL, List.append_nil, List.mem_append, List.mem_singleton] at hv
 rcases hv with h | h | rfl
 · exact vals_one' _ _ h
 · exact vals_one' _ _ h
 · rfl
theorem info_ans : (Tryz.prog.info? 25).map (·.size) = some 65 := by kernel_rfl
theorem info_ansV {CV : Array Value} (h : CV.size = 65) : (Tryz.prog.info? 25).map (·.size) = some CV.size := by rw [h]; exact info_ans
theorem ans_zero : (Tryz.prog.info? 25).bind (fun i => i.zero) = some (.agg (ansV z32 z32 false)) := by kernel_rfl
theorem ans_places : (match Tryz.prog.underlying 25 with | some (.struct fields) => fields.toList.mapM (fun f => (Tryz.prog.info? f.type).map fun i => (f.offset, i.size)) | _ => none) = some [(0, 32), (32, 32), (64, 1)] := by kernel_rfl
theorem ans_und : ∃ fields, Tryz.prog.underlying 25 = some (.struct fields) := ⟨_, Tryz.underlying25⟩
theorem run_ans0 (w : World) : (Instr.build 25 #[]).run Tryz.prog w = .ok (.agg (ansV z32 z32 false)) w := by
 refine run_build w 25 _ _ ?_
 unfold Program.built
 have h1 := ans_zero
 have h2 := ans_places
 obtain ⟨fields, hu⟩ := ans_und
 rw [hu] at h2 ⊢
 simp only at h2
 cases hi : Tryz.prog.info? 25 with
 | none => rw [hi] at h1; cases h1
 | some it =>
  rw [hi] at h1
  simp only [Option.bind_some] at h1
  simp only [h1, h2]
  rfl
theorem run_par0 (w : World) : (Instr.build 28 #[]).run Tryz.prog w = .ok (.agg (parV 0 0 0 0)) w := by
 refine run_build w 28 _ _ ?_
 kernel_rfl
theorem run_par (w : World) (a b c d : Nat) : (Instr.build 28 #[(0, .int .u64 ((a : Nat) : Int)), (1, .int .u64 ((b : Nat) : Int)), (2, .int .u64 ((c : Nat) : Int)), (3, .int .u64 ((d : Nat) : Int))]).run Tryz.prog w = .ok (.agg (parV a b c d)) w := by
 refine run_build w 28 _ _ ?_
 kernel_rfl
theorem run_ans (w : World) (r s : List Nat) (lr : r.length = 32) (ls : s.length = 32) : (Instr.build 25 #[(0, .agg (Iv .u8 (NI r))), (1, .agg (Iv .u8 (NI s)))]).run Tryz.prog w = .ok (.agg (ansV r s false)) w := by
 refine run_build w 25 _ _ ?_
 unfold Program.built
 have h1 := ans_zero
 have h2 := ans_places
 obtain ⟨fields, hu⟩ := ans_und
 rw [hu] at h2 ⊢
 simp only at h2
 cases hi : Tryz.prog.info? 25 with
 | none => rw [hi] at h1; cases h1
 | some it =>
  rw [hi] at h1
  simp only [Option.bind_some] at h1
  simp only [h1, h2]
  have e1 : setV (ansL z32 z32 false) (0 + 0) (vals r) = ansL r z32 false := setV_split (vals r) [] (vals z32) _ 0 rfl (by rw [vals_length, vals_length, lr, z32_length])
  have e2 : setV (ansL r z32 false) (32 + 0) (vals s) = ansL r s false := setV_split (vals s) (vals r) (vals z32) _ 32 (by rw [vals_length, lr]) (by rw [vals_length, vals_length, ls, z32_length])
  have f1 := fold_setV (vals r) (ansL z32 z32 false) 0 0
  have f2 := fold_setV (vals s) (ansL r z32 false) 32 0
  rw [e1] at f1
  rw [e2] at f2
  have hsz : (vals r).length = 32 := by rw [vals_length, lr]
  have hsz2 : (vals s).length = 32 := by rw [vals_length, ls]
  have al : ∀ (x y : List Nat), x.length = 32 → y.length = 32 → (ansL x y false).length = 65 := fun x y hx hy => by simp [ansL, vals_length, hx, hy]
  have s1 : (ansL z32 z32 false).length = 65 := al _ _ z32_length z32_length
  have s2 : (ansL r z32 false).length = 65 := al _ _ lr z32_length
  rw [vals_iv, vals_iv]
  unfold ansV
  have ez1 : (vals r).toArray.zipIdx = ((vals r).zipIdx 0).toArray := by simp
  have ez2 : (vals s).toArray.zipIdx = ((vals s).zipIdx 0).toArray := by simp
  have g1 : Array.foldl (fun (cs : Array Value) (p : Value × Nat) => cs.setIfInBounds (0 + p.2) p.1) (ansL z32 z32 false).toArray (vals r).toArray.zipIdx = (ansL r z32 false).toArray := by
   rw [ez1, List.foldl_toArray]
   exact f1
  have g2 : Array.foldl (fun (cs : Array Value) (p : Value × Nat) => cs.setIfInBounds (32 + p.2) p.1) (ansL r z32 false).toArray (vals s).toArray.zipIdx = (ansL r s false).toArray := by
   rw [ez2, List.foldl_toArray]
   exact f2
  simp only [Instr.fill, Value.cells, List.getElem?_toArray, List.getElem?_cons_succ, List.getElem?_cons_zero, List.size_toArray, hsz, hsz2, s1]
  rw [g1]
  simp only [List.size_toArray, s2]
  rw [g2]
  rfl
end Go.Proofs.YtegbnadnodlalaaGreatDoor
