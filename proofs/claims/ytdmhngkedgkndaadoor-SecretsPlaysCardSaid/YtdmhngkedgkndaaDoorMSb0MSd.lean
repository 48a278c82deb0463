/- mac: what a label and a context are expanded with. The tables, out of the rows' own condition. mac.Label: its contract, by Expand's. mac.Key: its contract, by Label's. -/
import Derived.Test.YtdmhngkedgkndaaDoorMMd0MSa
import Derived.Test.YtdmhngkedgkndaaDoorRows
import Derived.LaidMore
import Derived.Lib.LaidTab
import Derived.ProofKit
import Derived.OpenShut
import Derived.Stop.Joined
import Derived.Stop.LaidErr
namespace Go.Proofs.YtdmhngkedgkndaaDoor
open Go.RowKit
def six : List Nat := [116, 108, 115, 49, 51, 32]
theorem bL_six : bL { data := #[116, 108, 115, 49, 51, 32] } = six := by decide +kernel
def purpL (x y : Nat) (t c : List Nat) : List Nat := [x, y, t.length + 6] ++ six ++ t ++ [c.length] ++ c
set_option maxHeartbeats 4000000 in
set_option maxRecDepth 100000 in
theorem purpose_any (w : World) (t : ByteArray) (c : List Nat) (cv : Value) (n : Int) (hc : SB w cv c) (ht : t.size ≤ 249) (lc : c.length ≤ 255) (x y : Nat) (hn : (n = -1 ∧ x = 255 ∧ y = 255) ∨ ∃ m : Nat, m < 256 ∧ n = (m : Int) ∧ x = 0 ∧ y = m) :
    Calls Tryd.prog 43 #[.string t, cv, .int .i64 n] w fun e w' => ∃ v, e = .returned v ∧ SB w' v (purpL x y (bL t) c) ∧ Below w.heap.size w w' := by
  have hc' := hc
  obtain ⟨pc, cc, rfl, _⟩ := hc'
  go_enter Tryd.func43, Tryd.ntmps43
  go_upto_region 2 with fail
  have h1 : n / 256 % 256 = (x : Int) := by rcases hn with ⟨rfl, rfl, rfl⟩ | ⟨m, hm, rfl, rfl, rfl⟩ <;> omega
  have h2 : n % 256 = (y : Int) := by rcases hn with ⟨rfl, rfl, rfl⟩ | ⟨m, hm, rfl, rfl, rfl⟩ <;> omega
  have B0 := (Below.refl w.heap.size w).alloc (Nat.le_refl _) (.cells #[.int .u8 (n / 256 % 256), .int .u8 (n % 256), .int .u8 (6 + (t.size : Int))] 5)
  have O0 : OwL w.heap.size (w.alloc (.cells #[.int .u8 (n / 256 % 256), .int .u8 (n % 256), .int .u8 (6 + (t.size : Int))] 5)) (.slice (some ⟨w.heap.size, 0, none⟩) 3 3) [x, y, t.size + 6] := by
    have h := OwL.new w.heap.size w [x, y, t.size + 6] (Nat.le_refl _) (by show 3 ≤ maxLen; decide)
    rw [show (vals [x, y, t.size + 6]).toArray = #[.int .u8 (n / 256 % 256), .int .u8 (n % 256), .int .u8 (6 + (t.size : Int))] by rw [h1, h2, show (6 + (t.size : Int)) = ((t.size + 6 : Nat) : Int) by omega]; rfl] at h
    exact h
  have sw : w.heap.size < (w.alloc (.cells #[.int .u8 (n / 256 % 256), .int .u8 (n % 256), .int .u8 (6 + (t.size : Int))] 5)).heap.size := by simp
  generalize World.alloc w _ = W at B0 O0 sw ⊢
  clear h1 h2
  obtain ⟨v2, w2, r2, O2, g2⟩ := append_str w.heap.size W 22 _ _ { data := #[116, 108, 115, 49, 51, 32] } O0 (by show 3 + 6 ≤ 70368744177664; decide) B0.size
  rw [bL_six] at O2
  have B2 : Below w.heap.size w w2 := below_grown' B0 g2 (fun j hj => (O0.lt j hj).1) B0.size
  obtain ⟨v3, w3, r3, O3, g3⟩ := append_str w.heap.size w2 22 _ _ t O2 (by simp [six]; omega) B2.size
  have B3 : Below w.heap.size w w3 := below_grown' B2 g3 (fun j hj => (O2.lt j hj).1) B2.size
  have b4 : Below w3.heap.size w3 (w3.alloc (.cells #[.int .u8 ((c.length : Nat) : Int)] 5)) := (Below.refl _ _).alloc (Nat.le_refl _) _
  have W4 := byte_row w3 c.length
  have O3' := O3.below b4
  have B3' := B3.trans (b4.mono B3.size)
  obtain ⟨v4, w4, r4, O4, g4, _⟩ := append_ba w.heap.size _ 22 v3 _ [c.length] O3' w3.heap.size 0 1 W4 (by simp [six, bL_length]; omega) B3'.size
  have B4 : Below w.heap.size w w4 := below_grown' B3' g4 (fun j hj => (O3'.lt j hj).1) B3'.size
  obtain ⟨v5, w5, r5, O5, g5, _⟩ := append_sb w.heap.size w4 22 v4 _ _ c O4 (hc.below B4) (by simp [six, bL_length]; omega) B4.size
  have B5 : Below w.heap.size w w5 := below_grown' B4 g5 (fun j hj => (O4.lt j hj).1) B4.size
  have HR : SB w5 v5 (purpL x y (bL t) c) := by
    have := O5.sb
    unfold purpL
    rw [bL_length]
    exact this
  clear O0 O2 O3 O3' O4 O5 W4 g2 g3 g4 g5 B0 B2 B3 B3' B4 b4 sw hc
  go_wp2_with (first | (refine wpList_append_run rfl _ _ _ _ rfl _ _ rfl rfl _ _ r2 ?_) | (refine wpList_append_run rfl _ _ _ _ rfl _ _ rfl rfl _ _ r3 ?_) | (refine wpList_append_run rfl _ _ _ _ rfl _ _ rfl rfl _ _ r4 ?_) | (refine wpList_append_run rfl _ _ _ _ rfl _ _ rfl rfl _ _ r5 ?_))
  exact bodyPost_ret (results_tmp rfl _ _ _) rfl ⟨v5, rfl, HR, B5⟩
set_option maxHeartbeats 4000000 in
set_option maxRecDepth 100000 in
theorem rlabel_any (w : World) (t : ByteArray) (c : List Nat) (cv : Value) (m : Nat) (hc : SB w cv c) (ht : t.size ≤ 249) (lc : c.length ≤ 255) (hm : m < 256) :
    Calls Tryd.prog 25 #[.string t, cv, .int .i64 (m : Int)] w fun e w' => ∃ v, e = .returned v ∧ SB w' v (purpL 0 m (bL t) c) ∧ Below w.heap.size w w' := by
  have hc' := hc
  obtain ⟨pc, cc, rfl, _⟩ := hc'
  go_enter Tryd.func25, Tryd.ntmps25
  have q1 : (m : Int).tdiv 256 = 0 := by rw [Int.tdiv_eq_ediv_of_nonneg (by omega)]; omega
  have q2 : (m : Int).tmod 256 = (m : Int) := by rw [Int.tmod_eq_emod_of_nonneg (by omega)]; omega
  have q3 : (m : Int) / 256 = 0 := by omega
  have q4 : (m : Int) % 256 = (m : Int) := by omega
  have B0 := (Below.refl w.heap.size w).alloc (Nat.le_refl _) (.cells #[.int .u8 0, .int .u8 (m : Int), .int .u8 ((t.size : Int) + 6)] 5)
  have O0 : OwL w.heap.size (w.alloc (.cells #[.int .u8 0, .int .u8 (m : Int), .int .u8 ((t.size : Int) + 6)] 5)) (.slice (some ⟨w.heap.size, 0, none⟩) 3 3) [0, m, t.size + 6] := by
    exact OwL.new w.heap.size w [0, m, t.size + 6] (Nat.le_refl _) (by show 3 ≤ maxLen; decide)
  obtain ⟨u1, w1, r1, S1, b1⟩ := conv_str (w.alloc (.cells #[.int .u8 0, .int .u8 (m : Int), .int .u8 ((t.size : Int) + 6)] 5)) ({ data := #[116, 108, 115, 49, 51, 32] } ++ t)
  rw [bL_append, bL_six] at S1
  have O1 := O0.below b1
  have B1 := B0.trans (b1.mono B0.size)
  obtain ⟨v2, w2, r2, O2, g2, _⟩ := append_sb w.heap.size w1 22 _ u1 _ _ O1 S1 (by simp [six, bL_length]; omega) B1.size
  have B2 : Below w.heap.size w w2 := below_grown' B1 g2 (fun j hj => (O1.lt j hj).1) B1.size
  have b4 : Below w2.heap.size w2 (w2.alloc (.cells #[.int .u8 ((c.length : Nat) : Int)] 5)) := (Below.refl _ _).alloc (Nat.le_refl _) _
  have W4 := byte_row w2 c.length
  have O2' := O2.below b4
  have B2' := B2.trans (b4.mono B2.size)
  obtain ⟨v4, w4, r4, O4, g4, _⟩ := append_ba w.heap.size _ 22 v2 _ [c.length] O2' w2.heap.size 0 1 W4 (by simp [six, bL_length]; omega) B2'.size
  have B4 : Below w.heap.size w w4 := below_grown' B2' g4 (fun j hj => (O2'.lt j hj).1) B2'.size
  obtain ⟨v5, w5, r5, O5, g5, _⟩ := append_sb w.heap.size w4 22 v4 _ _ c O4 (hc.below B4) (by simp [six, bL_length]; omega) B4.size
  have B5 : Below w.heap.size w w5 := below_grown' B4 g5 (fun j hj => (O4.lt j hj).1) B4.size
  have HR : SB w5 v5 (purpL 0 m (bL t) c) := by
    have := O5.sb
    unfold purpL
    rw [bL_length]
    simpa using this
  clear O0 O1 O2 O2' O4 O5 W4 g2 g4 g5 B0 B1 B2 B2' B4 b1 b4 S1 hc
  go_wp2_with (first | (refine wpList_append_run rfl _ _ _ _ rfl _ _ rfl rfl _ _ r2 ?_) | (refine wpList_append_run rfl _ _ _ _ rfl _ _ rfl rfl _ _ r4 ?_) | (refine wpList_append_run rfl _ _ _ _ rfl _ _ rfl rfl _ _ r5 ?_))
  exact bodyPost_ret (results_tmp rfl _ _ _) rfl ⟨v5, rfl, HR, B5⟩
end Go.Proofs.YtdmhngkedgkndaaDoor
namespace Go.Proofs.YtdmhngkedgkndaaDoor
open Go.RowKit Go.ChangeShapes Go.WideShapes Go.ChangeAt Go.WideMaps Go.WideElems
/-- The numbers of a table as a row lists it. -/
def intsOf : DataW Unit → List Int
  | .agg ds => ds.map fun | .lit (.int _ z) => z | _ => 0
  | _ => []
def sqZ : List Int := intsOf Rows.laid_skiff_sha2_squareRoots
def cuZ : List Int := intsOf Rows.laid_skiff_sha2_cubeRoots
def sqT (i : Nat) : Nat := (sqZ.getD i 0).toNat
def cuT (i : Nat) : Nat := (cuZ.getD i 0).toNat
theorem sqZ_length : sqZ.length = 8 := by kernel_rfl
theorem cuZ_length : cuZ.length = 80 := by kernel_rfl
theorem sqZ_data : (Rows.laid_skiff_sha2_squareRoots : DataW Unit) = Lib.tabData .u64 sqZ := rfl
theorem cuZ_data : (Rows.laid_skiff_sha2_cubeRoots : DataW Unit) = Lib.tabData .u64 cuZ := rfl
theorem sqZ_all : (sqZ.all fun z => decide (0 ≤ z ∧ z < 18446744073709551616)) = true := by kernel_rfl
theorem cuZ_all : (cuZ.all fun z => decide (0 ≤ z ∧ z < 18446744073709551616)) = true := by kernel_rfl
theorem getD_all {l : List Int} (h : (l.all fun z => decide (0 ≤ z ∧ z < 18446744073709551616)) = true) (i : Nat) : 0 ≤ l.getD i 0 ∧ l.getD i 0 < 18446744073709551616 := by
  by_cases hi : i < l.length
  · have := List.all_eq_true.1 h _ (List.getElem_mem hi)
    simp [hi] at this ⊢
    exact this
  · rw [List.getD_eq_getElem?_getD, List.getElem?_eq_none (by omega)]
    decide
theorem sqT_int (i : Nat) : ((sqT i : Nat) : Int) = sqZ.getD i 0 := by
  have := getD_all sqZ_all i
  unfold sqT
  omega
theorem cuT_int (i : Nat) : ((cuT i : Nat) : Int) = cuZ.getD i 0 := by
  have := getD_all cuZ_all i
  unfold cuT
  omega
theorem gSq : Tryd.prog.globalNamed "skiff/sha2.squareRoots" = some 2 := by kernel_rfl
theorem gCu : Tryd.prog.globalNamed "skiff/sha2.cubeRoots" = some 3 := by kernel_rfl
theorem tSq : (Tryd.prog.globals[2]?).map (·.type) = some 61 := by kernel_rfl
theorem tCu : (Tryd.prog.globals[3]?).map (·.type) = some 60 := by kernel_rfl
theorem tab_of_laid {W : World} {rest : List (String × DataW Unit)} (h : laidMet Tryd.prog (("skiff/sha2.squareRoots", Rows.laid_skiff_sha2_squareRoots) :: ("skiff/sha2.cubeRoots", Rows.laid_skiff_sha2_cubeRoots) :: rest) W) : Tab W cuT ∧ Sq W sqT := by
  have h2 := laidMet.tail h
  rw [sqZ_data] at h
  rw [cuZ_data] at h2
  have s := Lib.tabIs_of_head gSq tSq Tryd.underlying61 Tryd.underlying59 (by kernel_rfl) (by kernel_rfl) h
  have c := Lib.tabIs_of_head gCu tCu Tryd.underlying60 Tryd.underlying59 (by kernel_rfl) (by kernel_rfl) h2
  have sc : ∀ i, i < 8 → W.cell? ⟨2, i, none⟩ = some (.int .u64 ((sqT i : Nat) : Int)) := fun i hi => by
    rw [sqT_int]
    exact s.cell gSq i (by rw [sqZ_length]; exact hi)
  have cc : ∀ i, i < 80 → W.cell? ⟨3, i, none⟩ = some (.int .u64 ((cuT i : Nat) : Int)) := fun i hi => by
    rw [cuT_int]
    exact c.cell gCu i (by rw [cuZ_length]; exact hi)
  exact ⟨⟨cc, fun i => by have := getD_all cuZ_all i; have := cuT_int i; omega, World.block_lt_of_cell? _ _ (cc 0 (by decide))⟩, ⟨sc, fun i => by have := getD_all sqZ_all i; have := sqT_int i; omega, World.block_lt_of_cell? _ _ (sc 0 (by decide))⟩⟩
/-- The door's own heap meets the condition. -/
theorem door_met2 (os : Os) (args : Array Value) : laidMetH Tryd.prog Rows.secretsPlaysRow.laid ((World.doorLaid Tryd.prog 29 os).forCall (fun _ _ => 0) ⟨#[], args, []⟩).memory :=
  laidMetH_of_parts3 (fuel := 8) (laidMet_of_run' 8 (by kernel_rfl) (by kernel_rfl)) (by kernel_rfl) (by kernel_rfl)
end Go.Proofs.YtdmhngkedgkndaaDoor
namespace Go.Proofs.YtdmhngkedgkndaaDoor
open Go.RowKit
/-- What stands throughout. -/
structure LbW (w : World) (cv : Value) (s c : List Nat) (wr : World) : Prop where
  b : Below w.heap.size w wr
  key : Blk wr w.heap.size 28 (Iv .u8 (NI s))
  ctx : SB wr cv c
  tab : Tab wr cuT
  sq : Sq wr sqT
theorem LbW.below {w : World} {cv : Value} {s c : List Nat} {wr w2 : World} (h : LbW w cv s c wr) (hb : Below wr.heap.size wr w2) : LbW w cv s c w2 :=
  ⟨h.b.trans (hb.mono h.b.size), h.key.below' hb, h.ctx.below hb, h.tab.below hb, h.sq.below hb⟩
set_option maxHeartbeats 4000000 in
set_option maxRecDepth 100000 in
theorem label_any (w : World) (s : List Nat) (t : ByteArray) (c : List Nat) (cv : Value) (n : Int) (T : Tab w cuT) (S : Sq w sqT) (hc : SB w cv c) (ls : s.length = 32) (ht : t.size ≤ 249) (lc : c.length ≤ 255) (x y : Nat) (hn : (n = -1 ∧ x = 255 ∧ y = 255) ∨ ∃ m : Nat, m < 256 ∧ n = (m : Int) ∧ x = 0 ∧ y = m) (Rr : Value → Int → World → Prop)
    (E : ∀ (w' : World) (v : Value), Tab w' cuT → Sq w' sqT → SB w' v (purpL x y (bL t) c) → Calls Tryd.prog 42 #[.agg (Iv .u8 (NI s)), v, .int .i64 n] w' fun e w2 => ∃ u k, e = .returned (.tuple #[u, .int .i64 k]) ∧ Rr u k w2 ∧ Below w'.heap.size w' w2) :
    Calls Tryd.prog 35 #[.agg (Iv .u8 (NI s)), .string t, cv, .int .i64 n] w fun e w' => ∃ u k, e = .returned (.tuple #[u, .int .i64 k]) ∧ Rr u k w' ∧ Below w.heap.size w w' := by
  have hc' := hc
  obtain ⟨pc, cc, rfl, _⟩ := hc'
  go_enter Tryd.func35, Tryd.ntmps35
  go_upto_region 1 with fail
  have b0 := (Below.refl w.heap.size w).alloc (Nat.le_refl _) (.cells (Iv .u8 (NI s)) 28)
  have R0 := Blk.new w 28 (Iv .u8 (NI s))
  have F : LbW w (.slice pc c.length cc) s c (w.alloc (.cells (Iv .u8 (NI s)) 28)) := ⟨b0, R0, hc.below b0, T.below b0, S.below b0⟩
  generalize World.alloc w _ = W at F ⊢
  clear b0 R0 hc T S
  have g1 : ¬ ((249 : Int) < (t.size : Int)) := by omega
  have g2 : ¬ ((255 : Int) < (c.length : Int)) := by omega
  go_upto_region 3 with fail
  rename_i aK
  have hS := F.below (below_drew (Below.refl W.heap.size W))
  clear F g1 g2
  refine wp_region_S (S := LbW w (.slice pc c.length cc) s c) (by kernel_rfl) ?_
  generalize World.drew W = V0 at *
  refine wpAnyS_takeL 0 rfl (by kernel_rfl) (by kernel_rfl) (by kernel_rfl) (fun _ _ _ h => h) (show YieldsIf _ _ _ _ (.agg (Iv .u8 (NI s))) _ from yieldsIf_row_wanted rfl 28 _ rfl w.heap.size rfl 28 _ _ (fun _ h => h.key) Tryd.underlying28 rfl (info_N32 _ ls)) hS ?_
  simp only [Act.put, List.setIfInBounds_toArray, List.set_cons_zero, List.set_cons_succ]
  refine wpAnyS_takeL 1 rfl (by kernel_rfl) (by kernel_rfl) (by kernel_rfl) (fun _ _ _ h => h) (yieldsIf_move rfl _ rfl _ rfl) hS ?_
  simp only [Act.put, List.setIfInBounds_toArray, List.set_cons_zero, List.set_cons_succ]
  refine wpAnyS_takeL 2 rfl (by kernel_rfl) (by kernel_rfl) (by kernel_rfl) (fun _ _ _ h => h) (yieldsIf_move rfl _ rfl _ rfl) hS ?_
  simp only [Act.put, List.setIfInBounds_toArray, List.set_cons_zero, List.set_cons_succ]
  refine wpAnyS_takeL 3 rfl (by kernel_rfl) (by kernel_rfl) (by kernel_rfl) (fun _ _ _ h => h) (yieldsIf_move rfl _ rfl _ rfl) hS ?_
  simp only [Act.put, List.setIfInBounds_toArray, List.set_cons_zero, List.set_cons_succ]
  refine wpAnyS_takeL 5 rfl (by kernel_rfl) (by kernel_rfl) (by kernel_rfl) (fun _ _ _ h => h) (yieldsIf_move rfl _ rfl _ rfl) hS ?_
  simp only [Act.put, List.setIfInBounds_toArray, List.set_cons_zero, List.set_cons_succ]
  refine wpAnyS_one (i := 4) (by kernel_rfl) ?_
  unfold wpOp
  go_simp
  left
  refine (purpose_any V0 t c _ n hS.ctx ht lc x y hn).mono ?_
  rintro _ V1 ⟨vp, rfl, hp, b⟩
  replace hS := LbW.below hS b
  refine ⟨hS, ?_⟩
  clear b
  refine wpAnyS_one (i := 6) (by kernel_rfl) ?_
  unfold wpOp
  go_simp
  left
  refine (E V1 vp hS.tab hS.sq hp).mono ?_
  rintro _ V2 ⟨u, k, rfl, hr, b⟩
  replace hS := LbW.below hS b
  refine ⟨hS, ?_⟩
  clear b hp
  refine wpAnyS_takeL 7 (v := u) rfl (by kernel_rfl) (by kernel_rfl) (by kernel_rfl) (fun _ _ _ h => h) (Or.inl ⟨by rfl, ?_⟩) hS ?_
  · intro w' _
    go_simp
  simp only [Act.put, List.setIfInBounds_toArray, List.set_cons_zero, List.set_cons_succ]
  refine wpAnyS_takeL 8 (v := (.int .i64 k)) rfl (by kernel_rfl) (by kernel_rfl) (by kernel_rfl) (fun _ _ _ h => h) (Or.inl ⟨by rfl, ?_⟩) hS ?_
  · intro w' _
    go_simp
  simp only [Act.put, List.setIfInBounds_toArray, List.set_cons_zero, List.set_cons_succ]
  refine wpAnyS_takeL 9 rfl (by kernel_rfl) (by kernel_rfl) (by kernel_rfl) (fun _ _ _ h => h) (show YieldsIf _ _ _ _ u _ from yieldsIf_assign rfl _ rfl _ rfl) hS ?_
  simp only [Act.put, List.setIfInBounds_toArray, List.set_cons_zero, List.set_cons_succ]
  refine wpAnyS_takeL 10 rfl (by kernel_rfl) (by kernel_rfl) (by kernel_rfl) (fun _ _ _ h => h) (show YieldsIf _ _ _ _ (.int .i64 k) _ from yieldsIf_assign rfl _ rfl _ rfl) hS ?_
  simp only [Act.put, List.setIfInBounds_toArray, List.set_cons_zero, List.set_cons_succ]
  refine wpAnyS_done (by kernel_rfl) ?_ _
  have HB := hS.b
  clear hS
  refine aK _ _ ?_
  clear aK
  refine wp_ret ?_
  exact bodyPost_ret (results_tmp2 rfl _ _ _) rfl ⟨u, k, rfl, hr, HB⟩
end Go.Proofs.YtdmhngkedgkndaaDoor
namespace Go.Proofs.YtdmhngkedgkndaaDoor
open Go.RowKit
theorem copy32 (l : List Nat) (h : l.length = 32) : ((Iv .u8 (List.replicate 32 0)).toList.take 0 ++ (l.map (fun x => Value.int .u8 ((x : Nat) : Int)) ++ (Iv .u8 (List.replicate 32 0)).toList.drop (0 + l.length))).toArray = Iv .u8 (NI l) := by
  rw [h]
  simp [Iv, NI]
/-- The memory of Key: the secret's cell, the result's, the key's. -/
structure KyW (w : World) (s : List Nat) (wr : World) : Prop where
  b : Below w.heap.size w wr
  key : Blk wr w.heap.size 28 (Iv .u8 (NI s))
  res : Blk wr (w.heap.size + 1) 28 (Iv .u8 (List.replicate 32 0))
  k : Blk wr (w.heap.size + 2) 28 (Iv .u8 (List.replicate 32 0))
theorem KyW.below {w : World} {s : List Nat} {wr w2 : World} (h : KyW w s wr) (hb : Below wr.heap.size wr w2) : KyW w s w2 :=
  ⟨h.b.trans (hb.mono h.b.size), h.key.below' hb, h.res.below' hb, h.k.below' hb⟩
theorem KyW.new (w : World) (s : List Nat) : KyW w s (((w.alloc (.cells (Iv .u8 (NI s)) 28)).alloc (.cells (Iv .u8 (List.replicate 32 0)) 28)).alloc (.cells (Iv .u8 (List.replicate 32 0)) 28)) :=
  ⟨(((Below.refl _ _).alloc (Nat.le_refl _) _).alloc (by simp) _).alloc (by simp; omega) _, ((Blk.new _ _ _).alloc _).alloc _, (Blk.new' (by simp) _ _).alloc _, Blk.new' (by simp) _ _⟩
set_option maxHeartbeats 4000000 in
set_option maxRecDepth 100000 in
theorem key_any (w : World) (s : List Nat) (t : ByteArray) (c : List Nat) (cv : Value) (hc : SB w cv c) (ls : s.length = 32) (O : List Nat) (lO : O.length = 32) (ee : Int)
    (E : ∀ w' : World, Below w.heap.size w w' → Calls Tryd.prog 35 #[.agg (Iv .u8 (NI s)), .string t, cv, .int .i64 32] w' fun e w2 => ∃ u, e = .returned (.tuple #[u, .int .i64 ee]) ∧ ((u = .slice none 0 0 ∧ O = List.replicate 32 0) ∨ (∃ g, u = .slice (some ⟨g, 0, none⟩) 32 32 ∧ BA w2 g 0 O)) ∧ Below w'.heap.size w' w2) :
    Calls Tryd.prog 29 #[.agg (Iv .u8 (NI s)), .string t, cv] w fun e w' => e = .returned (.agg (Iv .u8 (NI O))) ∧ Below w.heap.size w w' := by
  have hc' := hc
  obtain ⟨pc, cc, rfl, _⟩ := hc'
  go_enter Tryd.func29, Tryd.ntmps29
  go_upto_region 2 with fail
  generalize hW : World.alloc (World.alloc (World.alloc w _) _) _ = W
  have F : KyW w s W := by
    subst hW
    exact KyW.new w s
  clear hW
  have CE := Lib.hid (E W F.b)
  go_wp2_with (refine wpList_load_row rfl 28 _ rfl w.heap.size rfl 28 _ (0, 0) _ F.key Tryd.underlying28 rfl (info_N32 _ ls) ?_)
  refine CE.out.mono ?_
  rintro _ w1 ⟨u, rfl, hu, b1⟩
  have F1 := F.below b1
  clear CE F b1 E hc
  rcases hu with ⟨rfl, rfl⟩ | ⟨g, rfl, A⟩
  · have HK := F1.k
    have HR := F1.res
    have HB := F1.b
    clear F1
    have lz : (List.replicate 32 (0 : Int)).length = 32 := by simp
    obtain ⟨L, hL⟩ : ∃ L, L = List.replicate 32 (0 : Int) := ⟨_, rfl⟩
    rw [← hL] at HK lz
    have HL := Lib.hid hL
    clear hL
    have i32 : (Tryd.prog.info? 28).map (·.size) = some (Iv .u8 L).size := by rw [Iv_size, lz]; kernel_rfl
    go_upto_region 4 with (refine wpList_copy_nothing rfl _ _ _ _ rfl 5 Tryd.underlying22 (by kernel_rfl) _ _ _ _ _ _ rfl rfl (by simp) ?_)
    go_wp2_with (first | (refine wpList_load_row rfl 28 _ rfl (w.heap.size + 2) rfl 28 _ (0, 0) _ HK Tryd.underlying28 rfl i32 ?_) | (refine wpList_store_row rfl 28 _ _ rfl (w.heap.size + 1) (Iv .u8 L) rfl rfl 28 _ HR i32 (by rw [Iv_size, Iv_size, lz]; rfl) (Iv_one _ _) ?_))
    exact bodyPost_ret (results_cell_row rfl _ _ _ 28 _ (0, 0) _ rfl (HR.row _) Tryd.underlying28 rfl i32) rfl ⟨by rw [HL.out]; rfl, below_setRow HB (Nat.le_succ _) _⟩
  · have gl := A.blk
    have i32 := info_N32 O lO
    obtain ⟨V, hV⟩ : ∃ V, V = w1.setRow (w.heap.size + 2) (Iv .u8 (NI O)) := ⟨_, rfl⟩
    have HK := F1.k.row (Iv .u8 (NI O))
    have HR := F1.res.rowFar (k := w.heap.size + 2) (by omega) (Iv .u8 (NI O))
    have HB := below_setRow F1.b (show w.heap.size ≤ w.heap.size + 2 by omega) (Iv .u8 (NI O))
    rw [← hV] at HK HR HB
    have c32 := copy32 O lO
    go_upto_region 4 with (refine wpList_copy_own rfl _ _ _ _ rfl 5 Tryd.underlying22 (by kernel_rfl) (w.heap.size + 2) 0 _ _ ⟨g, 0, none⟩ _ _ rfl rfl (Iv .u8 (List.replicate 32 0)) 28 F1.k (O.map fun x => Value.int .u8 ((x : Nat) : Int)) (by rw [List.length_map, lO]; rfl) (cells_at A) (by simp [Iv]; omega) (one_at _) ?_)
    simp only [List.length_map]
    rw [c32, ← hV]
    clear F1 A hV c32
    obtain ⟨L, hL⟩ : ∃ L, L = NI O := ⟨_, rfl⟩
    rw [← hL] at HK i32
    have lL : L.length = 32 := by rw [hL, NI_length, lO]
    have HL := Lib.hid hL
    clear hL
    go_wp2_with (first | (refine wpList_load_row rfl 28 _ rfl (w.heap.size + 2) rfl 28 _ (0, 0) _ HK Tryd.underlying28 rfl i32 ?_) | (refine wpList_store_row rfl 28 _ _ rfl (w.heap.size + 1) (Iv .u8 L) rfl rfl 28 _ HR i32 (by rw [Iv_size, Iv_size, lL]; rfl) (Iv_one _ _) ?_))
    exact bodyPost_ret (results_cell_row rfl _ _ _ 28 _ (0, 0) _ rfl (HR.row _) Tryd.underlying28 rfl i32) rfl ⟨by rw [HL.out], below_setRow HB (Nat.le_succ _) _⟩
end Go.Proofs.YtdmhngkedgkndaaDoor
