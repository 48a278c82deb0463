/- Strings as bytes: appended, turned into a row of their own. -/
import Derived.Test.YtjkocockbglenaaDoorEd
import Derived.Lib.AppendStr
import Derived.Lib.ConvBytes
import Derived.Test.YtjkocockbglenaaDoorTb
import Derived.Test.YtjkocockbglenaaDoorQa
import Derived.Test.YtjkocockbglenaaDoorRows
import Derived.Test.YtjkocockbglenaaDoorTie
import Derived.Test.YtjkocockbglenaaDoorCards
import Derived.Test.YtjkocockbglenaaDoorLm
import Derived.SevenTiedAt
import Derived.ChangeMaps5
/- mac: what a label and a context are expanded with. -/
/- mac.Label: its contract, by Expand's. -/
/- mac.Key: its contract, by Label's. -/
/- mac.Label and mac.Key where nothing is too long, and where something is. -/
/- The law MacLabels. -/
/- The reference's tables, out of the rows' own condition: the same roots. -/
/- MacLabels returns true at every secret, every label and context (nil ones, too long ones too) and every number, and leaves what it was given as it was. Conditions: the tables of roots, of the program and of the reference, hold what the program's text lays in them (tied by the card). -/
namespace Go.Proofs.YtjkocockbglenaaDoor
open Go.RowKit

/-- A string's bytes. -/
def bL (s : ByteArray) : List Nat := s.data.toList.map UInt8.toNat
theorem bL_length (s : ByteArray) : (bL s).length = s.size := by
  rw [bL, List.length_map, Array.length_toList]
  rfl
theorem bL_bytes (s : ByteArray) : Bytes (bL s) := fun x hx => by
  obtain ⟨b, _, rfl⟩ := List.mem_map.1 hx
  exact b.toNat_lt
theorem bL_append (a b : ByteArray) : bL (a ++ b) = bL a ++ bL b := by
  simp [bL, ByteArray.data_append]
theorem strCells_vals (s : ByteArray) : Lib.strCells s = vals (bL s) := by
  simp [Lib.strCells, vals, bL]
theorem append_str (B : Nat) (w : World) (ty : TypeId) (v : Value) (l : List Nat) (s : ByteArray) (hv : OwL B w v l) (hl : l.length + s.size ≤ 70368744177664) (hB : B ≤ w.heap.size) :
    ∃ v' w', (Builtin.append_ #[22, 9] ty #[v, .string s]).run Tryd.prog w = .ok v' w' ∧ OwL B w' v' (l ++ bL s) ∧ w.grownBy w' v.ownBlock := by
  obtain ⟨i, hi, hs, hy, hz⟩ := info_u8
  obtain ⟨v', w', hr, h2, h3, _⟩ := Lib.run_append_own_string (P := Tryd.prog) w B 22 9 ty 5 i Tryd.underlying22 Tryd.underlying9 hi hz hs hy v l.length (vals l) hv s (by simp only [maxLen]; omega) (by omega) hB
  refine ⟨v', w', hr, ?_, h3⟩
  unfold OwL
  rw [List.length_append, vals_append, bL_length, ← strCells_vals]
  exact h2
theorem conv_str (w : World) (s : ByteArray) : ∃ v w', (convert 9 22 (.string s)).run Tryd.prog w = .ok v w' ∧ SB w' v (bL s) ∧ Below w.heap.size w w' := by
  refine ⟨_, _, Lib.run_convert_string_bytes w 9 22 5 s Tryd.underlying9 Tryd.underlying22 Tryd.underlying5, ?_, ?_⟩
  · refine SB.of_ba' ⟨fun i hi => ?_, ?_⟩ (bL_length s).symm ?_
    · rw [bL_length] at hi
      rw [Nat.zero_add, Lib.bytesWorld_cell _ _ _ _ hi]
      simp [bL, hi]
    · rw [Lib.bytesWorld_size]
      omega
    · rw [bL_length]
      exact grownCap_ge _ _ _ _
  · exact ⟨rfl, rfl, rfl, by rw [Lib.bytesWorld_size]; omega, fun k hk => Lib.bytesWorld_at_old _ _ _ k hk⟩
end Go.Proofs.YtjkocockbglenaaDoor
namespace Go.Proofs.YtjkocockbglenaaDoor
open Go.RowKit

def six : List Nat := [116, 108, 115, 49, 51, 32]
theorem bL_six : bL { data := #[116, 108, 115, 49, 51, 32] } = six := by decide +kernel
def purpL (x y : Nat) (t c : List Nat) : List Nat := [x, y, t.length + 6] ++ six ++ t ++ [c.length] ++ c
set_option maxHeartbeats 4000000 in
set_option maxRecDepth 100000 in
theorem purpose_any (w : World) (t : ByteArray) (c : List Nat) (cv : Value) (n : Int) (hc : SB w cv c) (ht : t.size ≤ 249) (lc : c.length ≤ 255) (x y : Nat) (hn : (n = -1 ∧ x = 255 ∧ y = 255) ∨ ∃ m : Nat, m < 256 ∧ n = (m : Int) ∧ x = 0 ∧ y = m) :
    Calls Tryd.prog 21 #[.string t, cv, .int .i64 n] w fun e w' => ∃ v, e = .returned v ∧ SB w' v (purpL x y (bL t) c) ∧ Below w.heap.size w w' := by
  have hc' := hc
  obtain ⟨pc, cc, rfl, _⟩ := hc'
  go_enter Tryd.func21, Tryd.ntmps21
  go_upto_region 2 with fail
  have h1 : n / 256 % 256 = (x : Int) := by rcases hn with ⟨rfl, rfl, rfl⟩ | ⟨m, hm, rfl, rfl, rfl⟩ <;> omega
  have h2 : n % 256 = (y : Int) := by rcases hn with ⟨rfl, rfl, rfl⟩ | ⟨m, hm, rfl, rfl, rfl⟩ <;> omega
  have B0 := (Below.refl w.heap.size w).alloc (Nat.le_refl _) (.cells #[.int .u8 (n / 256 % 256), .int .u8 (n % 256), .int .u8 (6 + (t.size : Int))] 5)
  have O0 : OwL w.heap.size (w.alloc (.cells #[.int .u8 (n / 256 % 256), .int .u8 (n % 256), .int .u8 (6 + (t.size : Int))] 5)) (.slice (some ⟨w.heap.size, 0, none⟩) 3 3) [x, y, t.size + 6] := by
    have h := OwL.new w.heap.size w [x, y, t.size + 6] (Nat.le_refl _) (by show 3 ≤ maxLen; decide)
    rw [show (vals [x, y, t.size + 6]).toArray = #[.int .u8 (n / 256 % 256), .int .u8 (n % 256), .int .u8 (6 + (t.size : Int))] by rw [h1, h2, show (6 + (t.size : Int)) = ((t.size + 6 : Nat) : Int) by omega]; rfl] at h
    exact h
  have sw : w.heap.size < (w.alloc (.cells #[.int .u8 (n / 256 % 256), .int .u8 (n % 256), .int .u8 (6 + (t.size : Int))] 5)).heap.size := by simp
  generalize World.alloc w _ = W at B0 O0 sw ⊢
  clear h1 h2
  obtain ⟨v2, w2, r2, O2, g2⟩ := append_str w.heap.size W 22 _ _ { data := #[116, 108, 115, 49, 51, 32] } O0 (by show 3 + 6 ≤ 70368744177664; decide) B0.size
  rw [bL_six] at O2
  have B2 : Below w.heap.size w w2 := below_grown' B0 g2 (fun j hj => (O0.lt j hj).1) B0.size
  obtain ⟨v3, w3, r3, O3, g3⟩ := append_str w.heap.size w2 22 _ _ t O2 (by simp [six]; omega) B2.size
  have B3 : Below w.heap.size w w3 := below_grown' B2 g3 (fun j hj => (O2.lt j hj).1) B2.size
  have b4 : Below w3.heap.size w3 (w3.alloc (.cells #[.int .u8 ((c.length : Nat) : Int)] 5)) := (Below.refl _ _).alloc (Nat.le_refl _) _
  have W4 := byte_row w3 c.length
  have O3' := O3.below b4
  have B3' := B3.trans (b4.mono B3.size)
  obtain ⟨v4, w4, r4, O4, g4, _⟩ := append_ba w.heap.size _ 22 v3 _ [c.length] O3' w3.heap.size 0 1 W4 (by simp [six, bL_length]; omega) B3'.size
  have B4 : Below w.heap.size w w4 := below_grown' B3' g4 (fun j hj => (O3'.lt j hj).1) B3'.size
  obtain ⟨v5, w5, r5, O5, g5, _⟩ := append_sb w.heap.size w4 22 v4 _ _ c O4 (hc.below B4) (by simp [six, bL_length]; omega) B4.size
  have B5 : Below w.heap.size w w5 := below_grown' B4 g5 (fun j hj => (O4.lt j hj).1) B4.size
  have HR : SB w5 v5 (purpL x y (bL t) c) := by
    have := O5.sb
    unfold purpL
    rw [bL_length]
    exact this
  clear O0 O2 O3 O3' O4 O5 W4 g2 g3 g4 g5 B0 B2 B3 B3' B4 b4 sw hc
  go_wp2_with (first | (refine wpList_append_run rfl _ _ _ _ rfl _ _ rfl rfl _ _ r2 ?_) | (refine wpList_append_run rfl _ _ _ _ rfl _ _ rfl rfl _ _ r3 ?_) | (refine wpList_append_run rfl _ _ _ _ rfl _ _ rfl rfl _ _ r4 ?_) | (refine wpList_append_run rfl _ _ _ _ rfl _ _ rfl rfl _ _ r5 ?_))
  exact bodyPost_ret (results_tmp rfl _ _ _) rfl ⟨v5, rfl, HR, B5⟩

set_option maxHeartbeats 4000000 in
set_option maxRecDepth 100000 in
theorem rlabel_any (w : World) (t : ByteArray) (c : List Nat) (cv : Value) (m : Nat) (hc : SB w cv c) (ht : t.size ≤ 249) (lc : c.length ≤ 255) (hm : m < 256) :
    Calls Tryd.prog 16 #[.string t, cv, .int .i64 (m : Int)] w fun e w' => ∃ v, e = .returned v ∧ SB w' v (purpL 0 m (bL t) c) ∧ Below w.heap.size w w' := by
  have hc' := hc
  obtain ⟨pc, cc, rfl, _⟩ := hc'
  go_enter Tryd.func16, Tryd.ntmps16
  have q1 : (m : Int).tdiv 256 = 0 := by rw [Int.tdiv_eq_ediv_of_nonneg (by omega)]; omega
  have q2 : (m : Int).tmod 256 = (m : Int) := by rw [Int.tmod_eq_emod_of_nonneg (by omega)]; omega
  have q3 : (m : Int) / 256 = 0 := by omega
  have q4 : (m : Int) % 256 = (m : Int) := by omega
  have B0 := (Below.refl w.heap.size w).alloc (Nat.le_refl _) (.cells #[.int .u8 0, .int .u8 (m : Int), .int .u8 ((t.size : Int) + 6)] 5)
  have O0 : OwL w.heap.size (w.alloc (.cells #[.int .u8 0, .int .u8 (m : Int), .int .u8 ((t.size : Int) + 6)] 5)) (.slice (some ⟨w.heap.size, 0, none⟩) 3 3) [0, m, t.size + 6] := by
    exact OwL.new w.heap.size w [0, m, t.size + 6] (Nat.le_refl _) (by show 3 ≤ maxLen; decide)
  obtain ⟨u1, w1, r1, S1, b1⟩ := conv_str (w.alloc (.cells #[.int .u8 0, .int .u8 (m : Int), .int .u8 ((t.size : Int) + 6)] 5)) ({ data := #[116, 108, 115, 49, 51, 32] } ++ t)
  rw [bL_append, bL_six] at S1
  have O1 := O0.below b1
  have B1 := B0.trans (b1.mono B0.size)
  obtain ⟨v2, w2, r2, O2, g2, _⟩ := append_sb w.heap.size w1 22 _ u1 _ _ O1 S1 (by simp [six, bL_length]; omega) B1.size
  have B2 : Below w.heap.size w w2 := below_grown' B1 g2 (fun j hj => (O1.lt j hj).1) B1.size
  have b4 : Below w2.heap.size w2 (w2.alloc (.cells #[.int .u8 ((c.length : Nat) : Int)] 5)) := (Below.refl _ _).alloc (Nat.le_refl _) _
  have W4 := byte_row w2 c.length
  have O2' := O2.below b4
  have B2' := B2.trans (b4.mono B2.size)
  obtain ⟨v4, w4, r4, O4, g4, _⟩ := append_ba w.heap.size _ 22 v2 _ [c.length] O2' w2.heap.size 0 1 W4 (by simp [six, bL_length]; omega) B2'.size
  have B4 : Below w.heap.size w w4 := below_grown' B2' g4 (fun j hj => (O2'.lt j hj).1) B2'.size
  obtain ⟨v5, w5, r5, O5, g5, _⟩ := append_sb w.heap.size w4 22 v4 _ _ c O4 (hc.below B4) (by simp [six, bL_length]; omega) B4.size
  have B5 : Below w.heap.size w w5 := below_grown' B4 g5 (fun j hj => (O4.lt j hj).1) B4.size
  have HR : SB w5 v5 (purpL 0 m (bL t) c) := by
    have := O5.sb
    unfold purpL
    rw [bL_length]
    simpa using this
  clear O0 O1 O2 O2' O4 O5 W4 g2 g4 g5 B0 B1 B2 B2' B4 b1 b4 S1 hc
  go_wp2_with (first | (refine wpList_append_run rfl _ _ _ _ rfl _ _ rfl rfl _ _ r2 ?_) | (refine wpList_append_run rfl _ _ _ _ rfl _ _ rfl rfl _ _ r4 ?_) | (refine wpList_append_run rfl _ _ _ _ rfl _ _ rfl rfl _ _ r5 ?_))
  exact bodyPost_ret (results_tmp rfl _ _ _) rfl ⟨v5, rfl, HR, B5⟩
end Go.Proofs.YtjkocockbglenaaDoor
namespace Go.Proofs.YtjkocockbglenaaDoor
open Go.RowKit

/-- What stands throughout. -/
structure LbW (w : World) (cv : Value) (s c : List Nat) (wr : World) : Prop where
  b : Below w.heap.size w wr
  key : Blk wr w.heap.size 25 (Iv .u8 (NI s))
  ctx : SB wr cv c
  tab : Tab wr cuT
  sq : Sq wr sqT
theorem LbW.below {w : World} {cv : Value} {s c : List Nat} {wr w2 : World} (h : LbW w cv s c wr) (hb : Below wr.heap.size wr w2) : LbW w cv s c w2 :=
  ⟨h.b.trans (hb.mono h.b.size), h.key.below' hb, h.ctx.below hb, h.tab.below hb, h.sq.below hb⟩

set_option maxHeartbeats 4000000 in
set_option maxRecDepth 100000 in
theorem label_any (w : World) (s : List Nat) (t : ByteArray) (c : List Nat) (cv : Value) (n : Int) (T : Tab w cuT) (S : Sq w sqT) (hc : SB w cv c) (ls : s.length = 32) (ht : t.size ≤ 249) (lc : c.length ≤ 255) (x y : Nat) (hn : (n = -1 ∧ x = 255 ∧ y = 255) ∨ ∃ m : Nat, m < 256 ∧ n = (m : Int) ∧ x = 0 ∧ y = m) (Rr : Value → Int → World → Prop)
    (E : ∀ (w' : World) (v : Value), Tab w' cuT → Sq w' sqT → SB w' v (purpL x y (bL t) c) → Calls Tryd.prog 12 #[.agg (Iv .u8 (NI s)), v, .int .i64 n] w' fun e w2 => ∃ u k, e = .returned (.tuple #[u, .int .i64 k]) ∧ Rr u k w2 ∧ Below w'.heap.size w' w2) :
    Calls Tryd.prog 14 #[.agg (Iv .u8 (NI s)), .string t, cv, .int .i64 n] w fun e w' => ∃ u k, e = .returned (.tuple #[u, .int .i64 k]) ∧ Rr u k w' ∧ Below w.heap.size w w' := by
  have hc' := hc
  obtain ⟨pc, cc, rfl, _⟩ := hc'
  go_enter Tryd.func14, Tryd.ntmps14
  go_upto_region 1 with fail
  have b0 := (Below.refl w.heap.size w).alloc (Nat.le_refl _) (.cells (Iv .u8 (NI s)) 25)
  have R0 := Blk.new w 25 (Iv .u8 (NI s))
  have F : LbW w (.slice pc c.length cc) s c (w.alloc (.cells (Iv .u8 (NI s)) 25)) := ⟨b0, R0, hc.below b0, T.below b0, S.below b0⟩
  generalize World.alloc w _ = W at F ⊢
  clear b0 R0 hc T S
  have g1 : ¬ ((249 : Int) < (t.size : Int)) := by omega
  have g2 : ¬ ((255 : Int) < (c.length : Int)) := by omega
  go_upto_region 3 with fail
  rename_i aK
  have hS := F.below (below_drew (Below.refl W.heap.size W))
  clear F g1 g2
  refine wp_region_S (S := LbW w (.slice pc c.length cc) s c) (by kernel_rfl) ?_
  generalize World.drew W = V0 at *
  refine wpAnyS_takeL 0 rfl (by kernel_rfl) (by kernel_rfl) (by kernel_rfl) (fun _ _ _ h => h) (show YieldsIf _ _ _ _ (.agg (Iv .u8 (NI s))) _ from yieldsIf_row_wanted rfl 25 _ rfl w.heap.size rfl 25 _ _ (fun _ h => h.key) Tryd.underlying25 rfl (info_N32 _ ls)) hS ?_
  simp only [Act.put, List.setIfInBounds_toArray, List.set_cons_zero, List.set_cons_succ]
  refine wpAnyS_takeL 1 rfl (by kernel_rfl) (by kernel_rfl) (by kernel_rfl) (fun _ _ _ h => h) (yieldsIf_move rfl _ rfl _ rfl) hS ?_
  simp only [Act.put, List.setIfInBounds_toArray, List.set_cons_zero, List.set_cons_succ]
  refine wpAnyS_takeL 2 rfl (by kernel_rfl) (by kernel_rfl) (by kernel_rfl) (fun _ _ _ h => h) (yieldsIf_move rfl _ rfl _ rfl) hS ?_
  simp only [Act.put, List.setIfInBounds_toArray, List.set_cons_zero, List.set_cons_succ]
  refine wpAnyS_takeL 3 rfl (by kernel_rfl) (by kernel_rfl) (by kernel_rfl) (fun _ _ _ h => h) (yieldsIf_move rfl _ rfl _ rfl) hS ?_
  simp only [Act.put, List.setIfInBounds_toArray, List.set_cons_zero, List.set_cons_succ]
  refine wpAnyS_takeL 5 rfl (by kernel_rfl) (by kernel_rfl) (by kernel_rfl) (fun _ _ _ h => h) (yieldsIf_move rfl _ rfl _ rfl) hS ?_
  simp only [Act.put, List.setIfInBounds_toArray, List.set_cons_zero, List.set_cons_succ]
  refine wpAnyS_one (i := 4) (by kernel_rfl) ?_
  unfold wpOp
  go_simp
  left
  refine (purpose_any V0 t c _ n hS.ctx ht lc x y hn).mono ?_
  rintro _ V1 ⟨vp, rfl, hp, b⟩
  replace hS := LbW.below hS b
  refine ⟨hS, ?_⟩
  clear b
  refine wpAnyS_one (i := 6) (by kernel_rfl) ?_
  unfold wpOp
  go_simp
  left
  refine (E V1 vp hS.tab hS.sq hp).mono ?_
  rintro _ V2 ⟨u, k, rfl, hr, b⟩
  replace hS := LbW.below hS b
  refine ⟨hS, ?_⟩
  clear b hp
  refine wpAnyS_takeL 7 (v := u) rfl (by kernel_rfl) (by kernel_rfl) (by kernel_rfl) (fun _ _ _ h => h) (Or.inl ⟨by rfl, ?_⟩) hS ?_
  · intro w' _
    go_simp
  simp only [Act.put, List.setIfInBounds_toArray, List.set_cons_zero, List.set_cons_succ]
  refine wpAnyS_takeL 8 (v := (.int .i64 k)) rfl (by kernel_rfl) (by kernel_rfl) (by kernel_rfl) (fun _ _ _ h => h) (Or.inl ⟨by rfl, ?_⟩) hS ?_
  · intro w' _
    go_simp
  simp only [Act.put, List.setIfInBounds_toArray, List.set_cons_zero, List.set_cons_succ]
  refine wpAnyS_takeL 9 rfl (by kernel_rfl) (by kernel_rfl) (by kernel_rfl) (fun _ _ _ h => h) (show YieldsIf _ _ _ _ u _ from yieldsIf_assign rfl _ rfl _ rfl) hS ?_
  simp only [Act.put, List.setIfInBounds_toArray, List.set_cons_zero, List.set_cons_succ]
  refine wpAnyS_takeL 10 rfl (by kernel_rfl) (by kernel_rfl) (by kernel_rfl) (fun _ _ _ h => h) (show YieldsIf _ _ _ _ (.int .i64 k) _ from yieldsIf_assign rfl _ rfl _ rfl) hS ?_
  simp only [Act.put, List.setIfInBounds_toArray, List.set_cons_zero, List.set_cons_succ]
  refine wpAnyS_done (by kernel_rfl) ?_ _
  have HB := hS.b
  clear hS
  refine aK _ _ ?_
  clear aK
  refine wp_ret ?_
  exact bodyPost_ret (results_tmp2 rfl _ _ _) rfl ⟨u, k, rfl, hr, HB⟩

set_option maxHeartbeats 4000000 in
set_option maxRecDepth 100000 in
theorem label_long (w : World) (s : List Nat) (t : ByteArray) (c : List Nat) (cv : Value) (n : Int) (hc : SB w cv c) (hl : 249 < t.size ∨ 255 < c.length) :
    Calls Tryd.prog 14 #[.agg (Iv .u8 (NI s)), .string t, cv, .int .i64 n] w fun e w' => e = .returned (.tuple #[.slice none 0 0, .int .i64 8]) ∧ Below w.heap.size w w' := by
  have hc' := hc
  obtain ⟨pc, cc, rfl, _⟩ := hc'
  go_enter Tryd.func14, Tryd.ntmps14
  have b0 := (Below.refl w.heap.size w).alloc (Nat.le_refl _) (.cells (Iv .u8 (NI s)) 25)
  by_cases h1 : (249 : Int) < (t.size : Int)
  · go_wp2
    exact bodyPost_ret (results_tmp2 rfl _ _ _) rfl ⟨rfl, b0⟩
  · have h2 : (255 : Int) < (c.length : Int) := by omega
    go_wp2
    exact bodyPost_ret (results_tmp2 rfl _ _ _) rfl ⟨rfl, b0⟩
end Go.Proofs.YtjkocockbglenaaDoor
namespace Go.Proofs.YtjkocockbglenaaDoor
open Go.RowKit

theorem copy32 (l : List Nat) (h : l.length = 32) : ((Iv .u8 (List.replicate 32 0)).toList.take 0 ++ (l.map (fun x => Value.int .u8 ((x : Nat) : Int)) ++ (Iv .u8 (List.replicate 32 0)).toList.drop (0 + l.length))).toArray = Iv .u8 (NI l) := by
  rw [h]
  simp [Iv, NI]
/-- The memory of Key: the secret's cell, the result's, the key's. -/
structure KyW (w : World) (s : List Nat) (wr : World) : Prop where
  b : Below w.heap.size w wr
  key : Blk wr w.heap.size 25 (Iv .u8 (NI s))
  res : Blk wr (w.heap.size + 1) 25 (Iv .u8 (List.replicate 32 0))
  k : Blk wr (w.heap.size + 2) 25 (Iv .u8 (List.replicate 32 0))
theorem KyW.below {w : World} {s : List Nat} {wr w2 : World} (h : KyW w s wr) (hb : Below wr.heap.size wr w2) : KyW w s w2 :=
  ⟨h.b.trans (hb.mono h.b.size), h.key.below' hb, h.res.below' hb, h.k.below' hb⟩
theorem KyW.new (w : World) (s : List Nat) : KyW w s (((w.alloc (.cells (Iv .u8 (NI s)) 25)).alloc (.cells (Iv .u8 (List.replicate 32 0)) 25)).alloc (.cells (Iv .u8 (List.replicate 32 0)) 25)) :=
  ⟨(((Below.refl _ _).alloc (Nat.le_refl _) _).alloc (by simp) _).alloc (by simp; omega) _, ((Blk.new _ _ _).alloc _).alloc _, (Blk.new' (by simp) _ _).alloc _, Blk.new' (by simp) _ _⟩

set_option maxHeartbeats 4000000 in
set_option maxRecDepth 100000 in
theorem key_any (w : World) (s : List Nat) (t : ByteArray) (c : List Nat) (cv : Value) (hc : SB w cv c) (ls : s.length = 32) (O : List Nat) (lO : O.length = 32) (ee : Int)
    (E : ∀ w' : World, Below w.heap.size w w' → Calls Tryd.prog 14 #[.agg (Iv .u8 (NI s)), .string t, cv, .int .i64 32] w' fun e w2 => ∃ u, e = .returned (.tuple #[u, .int .i64 ee]) ∧ ((u = .slice none 0 0 ∧ O = List.replicate 32 0) ∨ (∃ g, u = .slice (some ⟨g, 0, none⟩) 32 32 ∧ BA w2 g 0 O)) ∧ Below w'.heap.size w' w2) :
    Calls Tryd.prog 15 #[.agg (Iv .u8 (NI s)), .string t, cv] w fun e w' => e = .returned (.agg (Iv .u8 (NI O))) ∧ Below w.heap.size w w' := by
  have hc' := hc
  obtain ⟨pc, cc, rfl, _⟩ := hc'
  go_enter Tryd.func15, Tryd.ntmps15
  go_upto_region 2 with fail
  generalize hW : World.alloc (World.alloc (World.alloc w _) _) _ = W
  have F : KyW w s W := by
    subst hW
    exact KyW.new w s
  clear hW
  have CE := Lib.hid (E W F.b)
  go_wp2_with (refine wpList_load_row rfl 25 _ rfl w.heap.size rfl 25 _ (0, 0) _ F.key Tryd.underlying25 rfl (info_N32 _ ls) ?_)
  refine CE.out.mono ?_
  rintro _ w1 ⟨u, rfl, hu, b1⟩
  have F1 := F.below b1
  clear CE F b1 E hc
  rcases hu with ⟨rfl, rfl⟩ | ⟨g, rfl, A⟩
  · have HK := F1.k
    have HR := F1.res
    have HB := F1.b
    clear F1
    have lz : (List.replicate 32 (0 : Int)).length = 32 := by simp
    obtain ⟨L, hL⟩ : ∃ L, L = List.replicate 32 (0 : Int) := ⟨_, rfl⟩
    rw [← hL] at HK lz
    have HL := Lib.hid hL
    clear hL
    have i32 : (Tryd.prog.info? 25).map (·.size) = some (Iv .u8 L).size := by rw [Iv_size, lz]; kernel_rfl
    go_upto_region 4 with (refine wpList_copy_nothing rfl _ _ _ _ rfl 5 Tryd.underlying22 (by kernel_rfl) _ _ _ _ _ _ rfl rfl (by simp) ?_)
    go_wp2_with (first | (refine wpList_load_row rfl 25 _ rfl (w.heap.size + 2) rfl 25 _ (0, 0) _ HK Tryd.underlying25 rfl i32 ?_) | (refine wpList_store_row rfl 25 _ _ rfl (w.heap.size + 1) (Iv .u8 L) rfl rfl 25 _ HR i32 (by rw [Iv_size, Iv_size, lz]; rfl) (Iv_one _ _) ?_))
    exact bodyPost_ret (results_cell_row rfl _ _ _ 25 _ (0, 0) _ rfl (HR.row _) Tryd.underlying25 rfl i32) rfl ⟨by rw [HL.out]; rfl, below_setRow HB (Nat.le_succ _) _⟩
  · have gl := A.blk
    have i32 := info_N32 O lO
    obtain ⟨V, hV⟩ : ∃ V, V = w1.setRow (w.heap.size + 2) (Iv .u8 (NI O)) := ⟨_, rfl⟩
    have HK := F1.k.row (Iv .u8 (NI O))
    have HR := F1.res.rowFar (k := w.heap.size + 2) (by omega) (Iv .u8 (NI O))
    have HB := below_setRow F1.b (show w.heap.size ≤ w.heap.size + 2 by omega) (Iv .u8 (NI O))
    rw [← hV] at HK HR HB
    have c32 := copy32 O lO
    go_upto_region 4 with (refine wpList_copy_own rfl _ _ _ _ rfl 5 Tryd.underlying22 (by kernel_rfl) (w.heap.size + 2) 0 _ _ ⟨g, 0, none⟩ _ _ rfl rfl (Iv .u8 (List.replicate 32 0)) 25 F1.k (O.map fun x => Value.int .u8 ((x : Nat) : Int)) (by rw [List.length_map, lO]; rfl) (cells_at A) (by simp [Iv]; omega) (one_at _) ?_)
    simp only [List.length_map]
    rw [c32, ← hV]
    clear F1 A hV c32
    obtain ⟨L, hL⟩ : ∃ L, L = NI O := ⟨_, rfl⟩
    rw [← hL] at HK i32
    have lL : L.length = 32 := by rw [hL, NI_length, lO]
    have HL := Lib.hid hL
    clear hL
    go_wp2_with (first | (refine wpList_load_row rfl 25 _ rfl (w.heap.size + 2) rfl 25 _ (0, 0) _ HK Tryd.underlying25 rfl i32 ?_) | (refine wpList_store_row rfl 25 _ _ rfl (w.heap.size + 1) (Iv .u8 L) rfl rfl 25 _ HR i32 (by rw [Iv_size, Iv_size, lL]; rfl) (Iv_one _ _) ?_))
    exact bodyPost_ret (results_cell_row rfl _ _ _ 25 _ (0, 0) _ rfl (HR.row _) Tryd.underlying25 rfl i32) rfl ⟨by rw [HL.out], below_setRow HB (Nat.le_succ _) _⟩
end Go.Proofs.YtjkocockbglenaaDoor
namespace Go.Proofs.YtjkocockbglenaaDoor
open Go.RowKit

theorem purpL_length (x y : Nat) (t : ByteArray) (c : List Nat) : (purpL x y (bL t) c).length = t.size + c.length + 10 := by
  simp [purpL, six, bL_length]
  omega
theorem purpL_bytes (x y : Nat) (t : ByteArray) (c : List Nat) (hx : x < 256) (hy : y < 256) (ht : t.size ≤ 249) (lc : c.length ≤ 255) (bc : Bytes c) : Bytes (purpL x y (bL t) c) := by
  unfold purpL
  refine ((((?_ : Bytes _).append ?_).append (bL_bytes t)).append ?_).append bc
  · intro z hz
    simp only [List.mem_cons, List.not_mem_nil, or_false, bL_length] at hz
    omega
  · intro z hz
    simp only [six, List.mem_cons, List.not_mem_nil, or_false] at hz
    omega
  · intro z hz
    simp only [List.mem_cons, List.not_mem_nil, or_false] at hz
    omega
/-- What is read of a label. -/
def labL (s : List Nat) (t : ByteArray) (c : List Nat) (m : Nat) : List Nat := expandL cuT sqT s (purpL 0 m (bL t) c) m
theorem label_ok (w : World) (s : List Nat) (t : ByteArray) (c : List Nat) (cv : Value) (m : Nat) (T : Tab w cuT) (S : Sq w sqT) (hc : SB w cv c) (ls : s.length = 32) (bs : Bytes s) (bc : Bytes c) (ht : t.size ≤ 249) (lc : c.length ≤ 255) (hm : m < 256) :
    Calls Tryd.prog 14 #[.agg (Iv .u8 (NI s)), .string t, cv, .int .i64 (m : Int)] w fun e w' => ∃ p, e = .returned (.tuple #[.slice p m m, .int .i64 0]) ∧ SB w' (.slice p m m) (labL s t c m) ∧ (p = none ∨ ∃ g, p = some ⟨g, 0, none⟩) ∧ Below w.heap.size w w' := by
  have lp := purpL_length 0 m t c
  refine (label_any w s t c cv (m : Int) T S hc ls ht lc 0 m (Or.inr ⟨m, hm, rfl, rfl, rfl⟩) (fun u k w' => ∃ p, u = .slice p m m ∧ k = 0 ∧ SB w' (.slice p m m) (labL s t c m) ∧ (p = none ∨ ∃ g, p = some ⟨g, 0, none⟩))
    (fun w' v T S hv => (expand_any cuT sqT w' s _ v m T S ls bs hv (purpL_bytes 0 m t c (by decide) hm ht lc bc) (by omega) (by omega)).mono ?_)).mono ?_
  · rintro e w2 ⟨p, rfl, h2, b, hp⟩
    exact ⟨_, _, rfl, ⟨p, rfl, rfl, h2, hp.imp id fun ⟨g, h, _⟩ => ⟨g, h⟩⟩, b⟩
  · rintro e w2 ⟨u, k, rfl, ⟨p, rfl, rfl, h2, hp⟩, b⟩
    exact ⟨p, rfl, h2, hp, b⟩
theorem label_neg (w : World) (s : List Nat) (t : ByteArray) (c : List Nat) (cv : Value) (T : Tab w cuT) (S : Sq w sqT) (hc : SB w cv c) (ls : s.length = 32) (ht : t.size ≤ 249) (lc : c.length ≤ 255) :
    Calls Tryd.prog 14 #[.agg (Iv .u8 (NI s)), .string t, cv, .int .i64 (-1)] w fun e w' => e = .returned (.tuple #[.slice none 0 0, .int .i64 2]) ∧ Below w.heap.size w w' := by
  refine (label_any w s t c cv (-1) T S hc ls ht lc 255 255 (Or.inl ⟨rfl, rfl, rfl⟩) (fun u k _ => u = .slice none 0 0 ∧ k = 2)
    (fun w' v T S hv => (expand_out s w' v (-1) (Or.inl (by decide))).mono ?_)).mono ?_
  · rintro e w2 ⟨rfl, b⟩
    exact ⟨_, _, rfl, ⟨rfl, rfl⟩, b⟩
  · rintro e w2 ⟨u, k, rfl, ⟨rfl, rfl⟩, b⟩
    exact ⟨rfl, b⟩
theorem labL_length (s : List Nat) (t : ByteArray) (c : List Nat) (m : Nat) : (labL s t c m).length = m := expandL_length _ _ _ _ _
theorem key_ok (w : World) (s : List Nat) (t : ByteArray) (c : List Nat) (cv : Value) (T : Tab w cuT) (S : Sq w sqT) (hc : SB w cv c) (ls : s.length = 32) (bs : Bytes s) (bc : Bytes c) (ht : t.size ≤ 249) (lc : c.length ≤ 255) :
    Calls Tryd.prog 15 #[.agg (Iv .u8 (NI s)), .string t, cv] w fun e w' => e = .returned (.agg (Iv .u8 (NI (labL s t c 32)))) ∧ Below w.heap.size w w' := by
  refine key_any w s t c cv hc ls _ (labL_length s t c 32) 0 fun w' b => (label_ok w' s t c cv 32 (T.below b) (S.below b) (hc.below b) ls bs bc ht lc (by decide)).mono ?_
  rintro e w2 ⟨p, rfl, h2, hp, b2⟩
  refine ⟨_, rfl, Or.inr ?_, b2⟩
  obtain ⟨q, cc, e, _, h0 | ⟨g, o, hq, hb⟩⟩ := h2
  · have := labL_length s t c 32
    rw [h0] at this
    cases this
  · simp only [Value.slice.injEq] at e
    obtain ⟨rfl, _, _⟩ := e
    rcases hp with h | ⟨g', h⟩
    · rw [h] at hq
      cases hq
    · rw [h] at hq
      simp only [Option.some.injEq, Addr.mk.injEq] at hq
      obtain ⟨rfl, rfl, _⟩ := hq
      exact ⟨g', by rw [h], hb⟩
theorem key_long (w : World) (s : List Nat) (t : ByteArray) (c : List Nat) (cv : Value) (hc : SB w cv c) (ls : s.length = 32) (hl : 249 < t.size ∨ 255 < c.length) :
    Calls Tryd.prog 15 #[.agg (Iv .u8 (NI s)), .string t, cv] w fun e w' => e = .returned (.agg (Iv .u8 (NI (List.replicate 32 0)))) ∧ Below w.heap.size w w' := by
  refine key_any w s t c cv hc ls _ (by simp) 8 fun w' b => (label_long w' s t c cv 32 (hc.below b) hl).mono ?_
  rintro e w2 ⟨rfl, b2⟩
  exact ⟨_, rfl, Or.inl ⟨rfl, rfl⟩, b2⟩
section
variable {P : Program} {ops : Array Oper} {Q : Exit → Act → World → Prop}
theorem wpList_yield {S : World → Prop} {o : Oper} {rest : List Oper} {v : Value} {a : Act} {w : World} (hy : YieldsIf P ops S o v a) (hS : S w) (h : wpList P ops Q rest (a.put o.dst v) w) : wpList P ops Q (o :: rest) a w := by
  unfold wpList
  rcases hy with ⟨hw, hv⟩ | ⟨hw, rfl⟩
  · rw [if_pos hw]
    left
    unfold Oper.wp
    rw [hv w hS]
    exact h
  · rw [if_neg (by rw [hw]; decide)]
    exact h
end
end Go.Proofs.YtjkocockbglenaaDoor
namespace Go.Proofs.YtjkocockbglenaaDoor
open Go.RowKit

/-- What stands throughout. -/
structure LwW (w : World) (cv bv : Value) (s c l : List Nat) (K : List Int) (G : Nat) (wr : World) : Prop where
  b : Below w.heap.size w wr
  key : Blk wr w.heap.size 25 (Iv .u8 (NI s))
  ctx : SB wr cv c
  out : SB wr bv l
  k : Blk wr G 25 (Iv .u8 K)
  ref : Ref wr cuT sqT
theorem LwW.below {w : World} {cv bv : Value} {s c l : List Nat} {K : List Int} {G : Nat} {wr w2 : World} (h : LwW w cv bv s c l K G wr) (hb : Below wr.heap.size wr w2) : LwW w cv bv s c l K G w2 :=
  ⟨h.b.trans (hb.mono h.b.size), h.key.below' hb, h.ctx.below hb, h.out.below hb, h.k.below' hb, h.ref.below hb⟩

set_option maxHeartbeats 8000000 in
set_option maxRecDepth 100000 in
theorem labels_any (w : World) (s : List Nat) (t : ByteArray) (c : List Nat) (cv : Value) (n : Int) (T : Tab w cuT) (S : Sq w sqT) (R : Ref w cuT sqT) (ls : s.length = 32) (bs : Bytes s) (hc : SB w cv c) (bc : Bytes c) :
    Calls Tryd.prog 5 #[.agg (Iv .u8 (NI s)), .string t, cv, .int .i64 n] w fun e w' => e = .returned (.bool true) ∧ Below w.heap.size w w' := by
  have hc' := hc
  obtain ⟨pc, cc, rfl, _⟩ := hc'
  go_enter Tryd.func5, Tryd.ntmps5
  go_upto_region 1 with fail
  have b0 := (Below.refl w.heap.size w).alloc (Nat.le_refl _) (.cells (Iv .u8 (NI s)) 25)
  have R0 := Blk.new w 25 (Iv .u8 (NI s))
  generalize World.alloc w _ = W at b0 R0 ⊢
  replace hc := hc.below b0
  replace T := T.below b0
  replace S := S.below b0
  replace R := R.below b0
  have CA := Lib.hid (awake_any W T S)
  go_wp2_with fail
  refine CA.out.mono ?_
  rintro _ w1 ⟨rfl, b1⟩
  replace R0 := R0.below' b1
  replace hc := hc.below b1
  replace T := T.below b1
  replace S := S.below b1
  replace R := R.below b1
  have B1 := b0.trans (b1.mono b0.size)
  clear CA b0 b1
  go_upto_region 3 with fail
  by_cases h1 : (400 : Int) < (t.size : Int)
  · go_wp2
    go_ret
    exact ⟨rfl, B1⟩
  by_cases h2 : (400 : Int) < (c.length : Int)
  · go_wp2
    go_ret
    exact ⟨rfl, B1⟩
  go_upto_region 5 with fail
  by_cases hl : 249 < t.size ∨ 255 < c.length
  · by_cases hneg : n.tmod 120 < 0
    · have CL := Lib.hid (label_long w1 s t c _ (-1) hc hl)
      go_upto_region 8 with fail
      go_wp2_with (refine wpList_load_row rfl 25 _ rfl w.heap.size rfl 25 _ (0, 0) _ R0 Tryd.underlying25 rfl (info_N32 _ ls) ?_)
      refine CL.out.mono ?_
      rintro _ w2 ⟨rfl, b2⟩
      replace R0 := R0.below' b2
      replace hc := hc.below b2
      replace T := T.below b2
      replace S := S.below b2
      replace R := R.below b2
      replace B1 := B1.trans (b2.mono B1.size)
      clear CL
      have CK := Lib.hid (key_long w2 s t c _ hc ls hl)
      go_upto_region 9 with fail
      go_wp2_with (refine wpList_load_row rfl 25 _ rfl w.heap.size rfl 25 _ (0, 0) _ R0 Tryd.underlying25 rfl (info_N32 _ ls) ?_)
      refine CK.out.mono ?_
      rintro _ w3 ⟨rfl, b3⟩
      replace R0 := R0.below' b3
      replace hc := hc.below b3
      replace R := R.below b3
      replace B1 := B1.trans (b3.mono B1.size)
      clear CK T S
      obtain ⟨L, hL⟩ : ∃ L, L = NI (List.replicate 32 0) := ⟨_, rfl⟩
      have lL : L.length = 32 := by rw [hL, NI_length]; simp
      have HL := Lib.hid hL
      rw [← hL]
      clear hL
      have i32 : (Tryd.prog.info? 25).map (·.size) = some (Iv .u8 L).size := by rw [Iv_size, lL]; kernel_rfl
      go_upto_region 10 with (refine wpList_store_row rfl 25 _ _ rfl (w3.heap.size) (Iv .u8 L) rfl rfl 25 _ (Blk.new w3 25 (Iv .u8 (List.replicate 32 0))) i32 (by rw [Iv_size, Iv_size, lL]; rfl) (Iv_one _ _) ?_)
      change Code.wp _ _ _ _ (World.setRow (w3.alloc (.cells (Iv .u8 (List.replicate 32 0)) 25)) w3.heap.size _)
      have b4 := below_setRow ((Below.refl w3.heap.size w3).alloc (Nat.le_refl _) (.cells (Iv .u8 (List.replicate 32 0)) 25)) (Nat.le_refl w3.heap.size) (Iv .u8 L)
      have A4 := (Blk.new w3 25 (Iv .u8 (List.replicate 32 0))).row (Iv .u8 L)
      replace R0 := R0.below' b4
      replace hc := hc.below b4
      replace R := R.below b4
      replace B1 := B1.trans (b4.mono B1.size)
      generalize World.setRow _ _ _ = V at *
      generalize w3.heap.size = G at *
      clear b4 b3
      simp only [Act.put]

      by_cases h3 : (249 : Int) < (t.size : Int)
      · clear R0 R hc
        go_upto_region 11 with fail
        go_wp2_with (first | (refine wpList_yield (S := fun W' => Blk W' G 25 (Iv .u8 L)) (show YieldsIf _ _ _ _ (.agg (Iv .u8 L)) _ from yieldsIf_row_wanted rfl 25 _ rfl G rfl 25 _ _ (fun _ h => h) Tryd.underlying25 rfl i32) A4 ?_) | (refine wpList_yield (S := fun _ => True) (yieldsIf_eql rfl 25 _ _ _ rfl (Iv .u8 L) (Iv .u8 (List.replicate 32 0)) rfl rfl (by kernel_rfl) true (fun W' => by rw [eql_keys _ _ lL (by simp), HL.out]; rfl)) trivial ?_))
        go_ret
        exact ⟨rfl, B1⟩
      · have h4 : (255 : Int) < (c.length : Int) := by omega
        clear R0 R hc
        go_upto_region 11 with fail
        go_wp2_with (first | (refine wpList_yield (S := fun W' => Blk W' G 25 (Iv .u8 L)) (show YieldsIf _ _ _ _ (.agg (Iv .u8 L)) _ from yieldsIf_row_wanted rfl 25 _ rfl G rfl 25 _ _ (fun _ h => h) Tryd.underlying25 rfl i32) A4 ?_) | (refine wpList_yield (S := fun _ => True) (yieldsIf_eql rfl 25 _ _ _ rfl (Iv .u8 L) (Iv .u8 (List.replicate 32 0)) rfl rfl (by kernel_rfl) true (fun W' => by rw [eql_keys _ _ lL (by simp), HL.out]; rfl)) trivial ?_))
        go_ret
        exact ⟨rfl, B1⟩
    · obtain ⟨m, hm⟩ : ∃ m : Nat, n.tmod 120 = (m : Int) := ⟨(n.tmod 120).toNat, by omega⟩
      have lm : m < 120 := by
        have := Int.tmod_lt_of_pos n (show (0 : Int) < 120 by decide)
        omega
      have gm : ¬ ((m : Int) < 0) := by omega

      have CL := Lib.hid (label_long w1 s t c _ (m : Int) hc hl)
      go_upto_region 8 with fail
      go_wp2_with (refine wpList_load_row rfl 25 _ rfl w.heap.size rfl 25 _ (0, 0) _ R0 Tryd.underlying25 rfl (info_N32 _ ls) ?_)
      refine CL.out.mono ?_
      rintro _ w2 ⟨rfl, b2⟩
      replace R0 := R0.below' b2
      replace hc := hc.below b2
      replace T := T.below b2
      replace S := S.below b2
      replace R := R.below b2
      replace B1 := B1.trans (b2.mono B1.size)
      clear CL
      have CK := Lib.hid (key_long w2 s t c _ hc ls hl)
      go_upto_region 9 with fail
      go_wp2_with (refine wpList_load_row rfl 25 _ rfl w.heap.size rfl 25 _ (0, 0) _ R0 Tryd.underlying25 rfl (info_N32 _ ls) ?_)
      refine CK.out.mono ?_
      rintro _ w3 ⟨rfl, b3⟩
      replace R0 := R0.below' b3
      replace hc := hc.below b3
      replace R := R.below b3
      replace B1 := B1.trans (b3.mono B1.size)
      clear CK T S
      obtain ⟨L, hL⟩ : ∃ L, L = NI (List.replicate 32 0) := ⟨_, rfl⟩
      have lL : L.length = 32 := by rw [hL, NI_length]; simp
      have HL := Lib.hid hL
      rw [← hL]
      clear hL
      have i32 : (Tryd.prog.info? 25).map (·.size) = some (Iv .u8 L).size := by rw [Iv_size, lL]; kernel_rfl
      go_upto_region 10 with (refine wpList_store_row rfl 25 _ _ rfl (w3.heap.size) (Iv .u8 L) rfl rfl 25 _ (Blk.new w3 25 (Iv .u8 (List.replicate 32 0))) i32 (by rw [Iv_size, Iv_size, lL]; rfl) (Iv_one _ _) ?_)
      change Code.wp _ _ _ _ (World.setRow (w3.alloc (.cells (Iv .u8 (List.replicate 32 0)) 25)) w3.heap.size _)
      have b4 := below_setRow ((Below.refl w3.heap.size w3).alloc (Nat.le_refl _) (.cells (Iv .u8 (List.replicate 32 0)) 25)) (Nat.le_refl w3.heap.size) (Iv .u8 L)
      have A4 := (Blk.new w3 25 (Iv .u8 (List.replicate 32 0))).row (Iv .u8 L)
      replace R0 := R0.below' b4
      replace hc := hc.below b4
      replace R := R.below b4
      replace B1 := B1.trans (b4.mono B1.size)
      generalize World.setRow _ _ _ = V at *
      generalize w3.heap.size = G at *
      clear b4 b3
      simp only [Act.put]

      by_cases h3 : (249 : Int) < (t.size : Int)
      · clear R0 R hc
        go_upto_region 11 with fail
        go_wp2_with (first | (refine wpList_yield (S := fun W' => Blk W' G 25 (Iv .u8 L)) (show YieldsIf _ _ _ _ (.agg (Iv .u8 L)) _ from yieldsIf_row_wanted rfl 25 _ rfl G rfl 25 _ _ (fun _ h => h) Tryd.underlying25 rfl i32) A4 ?_) | (refine wpList_yield (S := fun _ => True) (yieldsIf_eql rfl 25 _ _ _ rfl (Iv .u8 L) (Iv .u8 (List.replicate 32 0)) rfl rfl (by kernel_rfl) true (fun W' => by rw [eql_keys _ _ lL (by simp), HL.out]; rfl)) trivial ?_))
        go_ret
        exact ⟨rfl, B1⟩
      · have h4 : (255 : Int) < (c.length : Int) := by omega
        clear R0 R hc
        go_upto_region 11 with fail
        go_wp2_with (first | (refine wpList_yield (S := fun W' => Blk W' G 25 (Iv .u8 L)) (show YieldsIf _ _ _ _ (.agg (Iv .u8 L)) _ from yieldsIf_row_wanted rfl 25 _ rfl G rfl 25 _ _ (fun _ h => h) Tryd.underlying25 rfl i32) A4 ?_) | (refine wpList_yield (S := fun _ => True) (yieldsIf_eql rfl 25 _ _ _ rfl (Iv .u8 L) (Iv .u8 (List.replicate 32 0)) rfl rfl (by kernel_rfl) true (fun W' => by rw [eql_keys _ _ lL (by simp), HL.out]; rfl)) trivial ?_))
        go_ret
        exact ⟨rfl, B1⟩
  · obtain ⟨ht, lc⟩ : t.size ≤ 249 ∧ c.length ≤ 255 := by omega
    have g1 : ¬ ((249 : Int) < (t.size : Int)) := by omega
    have g2 : ¬ ((255 : Int) < (c.length : Int)) := by omega
    by_cases hneg : n.tmod 120 < 0
    · have CL := Lib.hid (label_neg w1 s t c _ T S hc ls ht lc)
      go_upto_region 8 with fail
      go_wp2_with (refine wpList_load_row rfl 25 _ rfl w.heap.size rfl 25 _ (0, 0) _ R0 Tryd.underlying25 rfl (info_N32 _ ls) ?_)
      refine CL.out.mono ?_
      rintro _ w2 ⟨rfl, b2⟩
      replace R0 := R0.below' b2
      replace hc := hc.below b2
      replace T := T.below b2
      replace S := S.below b2
      replace R := R.below b2
      replace B1 := B1.trans (b2.mono B1.size)
      clear CL
      have CK := Lib.hid (key_ok w2 s t c _ T S hc ls bs bc ht lc)
      go_upto_region 9 with fail
      go_wp2_with (refine wpList_load_row rfl 25 _ rfl w.heap.size rfl 25 _ (0, 0) _ R0 Tryd.underlying25 rfl (info_N32 _ ls) ?_)
      refine CK.out.mono ?_
      rintro _ w3 ⟨rfl, b3⟩
      replace R0 := R0.below' b3
      replace hc := hc.below b3
      replace R := R.below b3
      replace B1 := B1.trans (b3.mono B1.size)
      clear CK T S
      obtain ⟨L, hL⟩ : ∃ L, L = NI (labL s t c 32) := ⟨_, rfl⟩
      have lL : L.length = 32 := by rw [hL, NI_length]; exact labL_length _ _ _ _
      have HL := Lib.hid hL
      rw [← hL]
      clear hL
      have i32 : (Tryd.prog.info? 25).map (·.size) = some (Iv .u8 L).size := by rw [Iv_size, lL]; kernel_rfl
      go_upto_region 10 with (refine wpList_store_row rfl 25 _ _ rfl (w3.heap.size) (Iv .u8 L) rfl rfl 25 _ (Blk.new w3 25 (Iv .u8 (List.replicate 32 0))) i32 (by rw [Iv_size, Iv_size, lL]; rfl) (Iv_one _ _) ?_)
      change Code.wp _ _ _ _ (World.setRow (w3.alloc (.cells (Iv .u8 (List.replicate 32 0)) 25)) w3.heap.size _)
      have b4 := below_setRow ((Below.refl w3.heap.size w3).alloc (Nat.le_refl _) (.cells (Iv .u8 (List.replicate 32 0)) 25)) (Nat.le_refl w3.heap.size) (Iv .u8 L)
      have A4 := (Blk.new w3 25 (Iv .u8 (List.replicate 32 0))).row (Iv .u8 L)
      replace R0 := R0.below' b4
      replace hc := hc.below b4
      replace R := R.below b4
      replace B1 := B1.trans (b4.mono B1.size)
      generalize World.setRow _ _ _ = V at *
      generalize w3.heap.size = G at *
      clear b4 b3
      simp only [Act.put]

      clear R0 R hc A4
      go_wp2
      go_ret
      exact ⟨rfl, B1⟩
    · obtain ⟨m, hm⟩ : ∃ m : Nat, n.tmod 120 = (m : Int) := ⟨(n.tmod 120).toNat, by omega⟩
      have lm : m < 120 := by
        have := Int.tmod_lt_of_pos n (show (0 : Int) < 120 by decide)
        omega
      have gm : ¬ ((m : Int) < 0) := by omega

      have CL := Lib.hid (label_ok w1 s t c _ m T S hc ls bs bc ht lc (by omega))
      go_upto_region 8 with fail
      go_wp2_with (refine wpList_load_row rfl 25 _ rfl w.heap.size rfl 25 _ (0, 0) _ R0 Tryd.underlying25 rfl (info_N32 _ ls) ?_)
      refine CL.out.mono ?_
      rintro _ w2 ⟨p2, rfl, A2, _, b2⟩
      replace R0 := R0.below' b2
      replace hc := hc.below b2
      replace T := T.below b2
      replace S := S.below b2
      replace R := R.below b2
      replace B1 := B1.trans (b2.mono B1.size)
      clear CL
      have CK := Lib.hid (key_ok w2 s t c _ T S hc ls bs bc ht lc)
      go_upto_region 9 with fail
      go_wp2_with (refine wpList_load_row rfl 25 _ rfl w.heap.size rfl 25 _ (0, 0) _ R0 Tryd.underlying25 rfl (info_N32 _ ls) ?_)
      refine CK.out.mono ?_
      rintro _ w3 ⟨rfl, b3⟩
      replace R0 := R0.below' b3
      replace hc := hc.below b3
      replace R := R.below b3
      replace B1 := B1.trans (b3.mono B1.size)
      replace A2 := A2.below b3
      clear CK T S
      obtain ⟨L, hL⟩ : ∃ L, L = NI (labL s t c 32) := ⟨_, rfl⟩
      have lL : L.length = 32 := by rw [hL, NI_length]; exact labL_length _ _ _ _
      have HL := Lib.hid hL
      rw [← hL]
      clear hL
      have i32 : (Tryd.prog.info? 25).map (·.size) = some (Iv .u8 L).size := by rw [Iv_size, lL]; kernel_rfl
      go_upto_region 10 with (refine wpList_store_row rfl 25 _ _ rfl (w3.heap.size) (Iv .u8 L) rfl rfl 25 _ (Blk.new w3 25 (Iv .u8 (List.replicate 32 0))) i32 (by rw [Iv_size, Iv_size, lL]; rfl) (Iv_one _ _) ?_)
      change Code.wp _ _ _ _ (World.setRow (w3.alloc (.cells (Iv .u8 (List.replicate 32 0)) 25)) w3.heap.size _)
      have b4 := below_setRow ((Below.refl w3.heap.size w3).alloc (Nat.le_refl _) (.cells (Iv .u8 (List.replicate 32 0)) 25)) (Nat.le_refl w3.heap.size) (Iv .u8 L)
      have A4 := (Blk.new w3 25 (Iv .u8 (List.replicate 32 0))).row (Iv .u8 L)
      replace R0 := R0.below' b4
      replace hc := hc.below b4
      replace R := R.below b4
      replace B1 := B1.trans (b4.mono B1.size)
      replace A2 := A2.below b4
      generalize World.setRow _ _ _ = V at *
      generalize w3.heap.size = G at *
      clear b4 b3
      simp only [Act.put]

      have F : LwW w (.slice pc c.length cc) (.slice p2 m m) s c (labL s t c m) L G V := ⟨B1, R0, hc, A2, A4, R⟩
      clear B1 R0 hc A2 A4 R
      have lP := purpL_length 0 m t c
      have lQ := purpL_length 0 32 t c
      have bP := purpL_bytes 0 m t c (by decide) (by omega) ht lc bc
      have bQ := purpL_bytes 0 32 t c (by decide) (by decide) ht lc bc
      have HP := Lib.hid (And.intro lP (And.intro lQ (And.intro bP bQ)))
      clear lP lQ bP bQ
      go_upto_region 14 with fail
      rename_i aK
      have hS := F.below (below_drew (Below.refl V.heap.size V))
      clear F
      refine wp_region_S (S := LwW w (.slice pc c.length cc) (.slice p2 m m) s c (labL s t c m) L G) (by kernel_rfl) ?_
      generalize World.drew V = V0 at *
      refine wpAnyS_takeL 0 rfl (by kernel_rfl) (by kernel_rfl) (by kernel_rfl) (fun _ _ _ h => h) (show YieldsIf _ _ _ _ (.agg (Iv .u8 (NI s))) _ from yieldsIf_row_wanted rfl 25 _ rfl w.heap.size rfl 25 _ _ (fun _ h => h.key) Tryd.underlying25 rfl (info_N32 _ ls)) hS ?_
      simp only [Act.put, List.setIfInBounds_toArray, List.set_cons_zero, List.set_cons_succ]
      refine wpAnyS_takeL 1 rfl (by kernel_rfl) (by kernel_rfl) (by kernel_rfl) (fun _ _ _ h => h) (yieldsIf_move rfl _ rfl _ rfl) hS ?_
      simp only [Act.put, List.setIfInBounds_toArray, List.set_cons_zero, List.set_cons_succ]
      refine wpAnyS_takeL 2 rfl (by kernel_rfl) (by kernel_rfl) (by kernel_rfl) (fun _ _ _ h => h) (yieldsIf_move rfl _ rfl _ rfl) hS ?_
      simp only [Act.put, List.setIfInBounds_toArray, List.set_cons_zero, List.set_cons_succ]
      refine wpAnyS_one (i := 3) (by kernel_rfl) ?_
      unfold wpOp
      go_simp
      left
      refine (rlabel_any V0 t c _ 32 hS.ctx ht lc (by decide)).mono ?_
      rintro _ V1 ⟨vp, rfl, hp, b⟩
      replace hS := LwW.below hS b
      refine ⟨hS, ?_⟩
      clear b
      refine wpAnyS_one (i := 4) (by kernel_rfl) ?_
      unfold wpOp
      go_simp
      left
      refine (rexp_any V1 cuT sqT s _ bs HP.out.2.2.2 ls (by have := HP.out.2.1; omega) _ hp 32 (by decide) hS.ref).mono ?_
      rintro _ V2 ⟨vf, rfl, hf, b⟩
      replace hS := LwW.below hS b
      refine ⟨hS, ?_⟩
      clear b hp
      refine wpAnyS_takeL 5 rfl (by kernel_rfl) (by kernel_rfl) (by kernel_rfl) (fun _ _ _ h => h) (show YieldsIf _ _ _ _ vf _ from yieldsIf_assign rfl _ rfl _ rfl) hS ?_
      simp only [Act.put, List.setIfInBounds_toArray, List.set_cons_zero, List.set_cons_succ]
      refine wpAnyS_done (by kernel_rfl) ?_ _
      refine aK _ _ ?_
      clear aK
      obtain ⟨Z, hZ⟩ : ∃ Z, Z = labL s t c 32 := ⟨_, rfl⟩
      have l32 : Z.length = 32 := by rw [hZ]; exact labL_length _ _ _ _
      have hz : SB V2 vf Z := by rw [hZ]; exact hf
      have HZ := Lib.hid hZ
      clear hZ hf
      have F : LwW w (.slice pc c.length cc) (.slice p2 m m) s c (labL s t c m) L G V2 ∧ SB V2 vf (Z) := ⟨hS, hz⟩
      clear hS hz
      go_upto_region 15 with fail
      rename_i aK
      have bd := below_drew (Below.refl V2.heap.size V2)
      have hS := And.intro (F.1.below bd) (F.2.below bd)
      clear F bd
      have eL : Iv .u8 L = Iv .u8 (NI Z) := by rw [HL.out, HZ.out]
      refine wp_region_S (S := fun W' => LwW w (.slice pc c.length cc) (.slice p2 m m) s c (labL s t c m) L G W' ∧ SB W' vf (Z)) (by kernel_rfl) ?_
      generalize World.drew V2 = V3 at *
      obtain ⟨kv, ekv⟩ : ∃ kv : Value, kv = .slice (some ⟨G, 0, none⟩) 32 32 := ⟨_, rfl⟩
      have lK32 : ∀ {W' : World}, Blk W' G 25 (Iv .u8 L) → SB W' kv (Z) := fun hk => by
        rw [eL] at hk
        rw [ekv]
        exact SB.of_ba' (c := 32) (n := 32) (BA.of_blk hk) l32.symm (by rw [l32]; exact Nat.le_refl _)
      have EKV := Lib.hid ekv
      clear eL l32 ekv
      obtain ⟨sA, esA⟩ : ∃ x, x = strB (labL s t c m) := ⟨_, rfl⟩
      obtain ⟨sZ, esZ⟩ : ∃ x, x = strB Z := ⟨_, rfl⟩
      have cA : ∀ {W' : World} {v : Value}, SB W' v (labL s t c m) → SB W' v (labL s t c m) ∧ sA = strB (labL s t c m) := fun h => ⟨h, esA⟩
      have EA := Lib.hid esA
      have EZ := Lib.hid esZ
      clear esA esZ cA
      refine wpAnyS_takeL 0 rfl (by kernel_rfl) (by kernel_rfl) (by kernel_rfl) (fun _ _ _ h => h) (yieldsIf_move rfl _ rfl _ rfl) hS ?_
      simp only [Act.put, List.setIfInBounds_toArray, List.set_cons_zero, List.set_cons_succ]
      refine wpAnyS_takeL 1 (v := (.bool true)) rfl (by kernel_rfl) (by kernel_rfl) (by kernel_rfl) (fun _ _ _ h => h) (Or.inl ⟨by rfl, ?_⟩) hS ?_
      · intro w' _
        go_simp
      simp only [Act.put, List.setIfInBounds_toArray, List.set_cons_zero, List.set_cons_succ]
      refine wpAnyS_takeL 2 rfl (by kernel_rfl) (by kernel_rfl) (by kernel_rfl) (fun _ _ _ h => h) (yieldsIf_move rfl _ rfl _ rfl) hS ?_
      simp only [Act.put, List.setIfInBounds_toArray, List.set_cons_zero, List.set_cons_succ]
      refine wpAnyS_takeL 3 rfl (by kernel_rfl) (by kernel_rfl) (by kernel_rfl) (fun _ _ _ h => h) (yieldsIf_move rfl _ rfl _ rfl) hS ?_
      simp only [Act.put, List.setIfInBounds_toArray, List.set_cons_zero, List.set_cons_succ]
      refine wpAnyS_takeL 4 rfl (by kernel_rfl) (by kernel_rfl) (by kernel_rfl) (fun _ _ _ h => h) (show YieldsIf _ _ _ _ (.string sA) _ from EA.out ▸ yieldsIf_conv rfl _ rfl (.slice p2 m m) rfl (labL s t c m) (fun _ h => h.1.out)) hS ?_
      simp only [Act.put, List.setIfInBounds_toArray, List.set_cons_zero, List.set_cons_succ]
      refine wpAnyS_takeL 5 rfl (by kernel_rfl) (by kernel_rfl) (by kernel_rfl) (fun _ _ _ h => h) (show YieldsIf _ _ _ _ (.agg (Iv .u8 (NI s))) _ from yieldsIf_row_wanted rfl 25 _ rfl w.heap.size rfl 25 _ _ (fun _ h => h.1.key) Tryd.underlying25 rfl (info_N32 _ ls)) hS ?_
      simp only [Act.put, List.setIfInBounds_toArray, List.set_cons_zero, List.set_cons_succ]
      refine wpAnyS_takeL 6 rfl (by kernel_rfl) (by kernel_rfl) (by kernel_rfl) (fun _ _ _ h => h) (yieldsIf_move rfl _ rfl _ rfl) hS ?_
      simp only [Act.put, List.setIfInBounds_toArray, List.set_cons_zero, List.set_cons_succ]
      refine wpAnyS_takeL 7 rfl (by kernel_rfl) (by kernel_rfl) (by kernel_rfl) (fun _ _ _ h => h) (yieldsIf_move rfl _ rfl _ rfl) hS ?_
      simp only [Act.put, List.setIfInBounds_toArray, List.set_cons_zero, List.set_cons_succ]
      refine wpAnyS_takeL 8 rfl (by kernel_rfl) (by kernel_rfl) (by kernel_rfl) (fun _ _ _ h => h) (yieldsIf_move rfl _ rfl _ rfl) hS ?_
      simp only [Act.put, List.setIfInBounds_toArray, List.set_cons_zero, List.set_cons_succ]
      refine wpAnyS_takeL 10 rfl (by kernel_rfl) (by kernel_rfl) (by kernel_rfl) (fun _ _ _ h => h) (yieldsIf_move rfl _ rfl _ rfl) hS ?_
      simp only [Act.put, List.setIfInBounds_toArray, List.set_cons_zero, List.set_cons_succ]
      refine wpAnyS_one (i := 9) (by kernel_rfl) ?_
      unfold wpOp
      go_simp
      left
      refine (rlabel_any V3 t c _ m hS.1.ctx ht lc (by omega)).mono ?_
      rintro _ V4 ⟨vq, rfl, hq, b⟩
      replace hS := And.intro (LwW.below hS.1 b) (hS.2.below b)
      refine ⟨hS, ?_⟩
      clear b
      refine wpAnyS_one (i := 11) (by kernel_rfl) ?_
      unfold wpOp
      go_simp
      left
      refine (rexp_any V4 cuT sqT s _ bs HP.out.2.2.1 ls (by have := HP.out.1; omega) _ hq m (by omega) hS.1.ref).mono ?_
      rintro _ V5 ⟨vg, rfl, hg, b⟩
      replace hS := And.intro (LwW.below hS.1 b) (hS.2.below b)
      refine ⟨hS, ?_⟩
      clear b hq
      refine wpAnyS_one (i := 12) (by kernel_rfl) ((show YieldsIf _ _ (fun W' => SB W' vg (labL s t c m)) _ (.string sA) _ from EA.out ▸ yieldsIf_conv (S := fun W' => SB W' vg (labL s t c m)) rfl _ rfl vg rfl (labL s t c m) (fun _ h => h)).wpOp rfl hg ⟨hS, ?_⟩)
      change wpAnyS _ _ _ _ _ _ _ (Act.put _ (some 85) (.string sA)) _
      simp only [Act.put, List.setIfInBounds_toArray, List.set_cons_zero, List.set_cons_succ]
      refine wpAnyS_takeL 13 (v := (.bool true)) rfl (by kernel_rfl) (by kernel_rfl) (by kernel_rfl) (fun _ _ _ h => h) (Or.inl ⟨by rfl, ?_⟩) hS ?_
      · intro w' _
        go_simp
      simp only [Act.put, List.setIfInBounds_toArray, List.set_cons_zero, List.set_cons_succ]
      refine wpAnyS_takeL 14 rfl (by kernel_rfl) (by kernel_rfl) (by kernel_rfl) (fun _ _ _ h => h) (show YieldsIf _ _ _ _ (.bool true) _ from yieldsIf_pick rfl _ _ _ rfl true rfl _ rfl) hS ?_
      simp only [Act.put, List.setIfInBounds_toArray, List.set_cons_zero, List.set_cons_succ]
      refine wpAnyS_takeL 15 rfl (by kernel_rfl) (by kernel_rfl) (by kernel_rfl) (fun _ _ _ h => h) (show YieldsIf _ _ _ _ (.bool true) _ from yieldsIf_move rfl _ rfl _ rfl) hS ?_
      simp only [Act.put, List.setIfInBounds_toArray, List.set_cons_zero, List.set_cons_succ]
      refine wpAnyS_takeL 16 (v := kv) rfl (by kernel_rfl) (by kernel_rfl) (by kernel_rfl) (fun _ _ _ h => h) (Or.inl ⟨by rfl, ?_⟩) hS ?_
      · intro w' hw'
        rw [EKV.out]
        go_simp
      simp only [Act.put, List.setIfInBounds_toArray, List.set_cons_zero, List.set_cons_succ]
      refine wpAnyS_takeL 18 rfl (by kernel_rfl) (by kernel_rfl) (by kernel_rfl) (fun _ _ _ h => h) (show YieldsIf _ _ _ _ vf _ from yieldsIf_move rfl _ rfl _ rfl) hS ?_
      simp only [Act.put, List.setIfInBounds_toArray, List.set_cons_zero, List.set_cons_succ]
      refine wpAnyS_takeL 19 rfl (by kernel_rfl) (by kernel_rfl) (by kernel_rfl) (fun _ _ _ h => h) (show YieldsIf _ _ _ _ (.string sZ) _ from EZ.out ▸ yieldsIf_conv rfl _ rfl vf rfl (Z) (fun _ h => h.2)) hS ?_
      simp only [Act.put, List.setIfInBounds_toArray, List.set_cons_zero, List.set_cons_succ]
      refine wpAnyS_takeL 17 rfl (by kernel_rfl) (by kernel_rfl) (by kernel_rfl) (fun _ _ _ h => h) (show YieldsIf _ _ _ _ (.string sZ) _ from EZ.out ▸ yieldsIf_conv rfl _ rfl kv rfl (Z) (fun _ h => lK32 h.1.k)) hS ?_
      simp only [Act.put, List.setIfInBounds_toArray, List.set_cons_zero, List.set_cons_succ]
      refine wpAnyS_takeL 20 (v := (.bool true)) rfl (by kernel_rfl) (by kernel_rfl) (by kernel_rfl) (fun _ _ _ h => h) (Or.inl ⟨by rfl, ?_⟩) hS ?_
      · intro w' _
        go_simp
      simp only [Act.put, List.setIfInBounds_toArray, List.set_cons_zero, List.set_cons_succ]
      refine wpAnyS_takeL 21 rfl (by kernel_rfl) (by kernel_rfl) (by kernel_rfl) (fun _ _ _ h => h) (show YieldsIf _ _ _ _ (.bool true) _ from yieldsIf_pick rfl _ _ _ rfl true rfl _ rfl) hS ?_
      simp only [Act.put, List.setIfInBounds_toArray, List.set_cons_zero, List.set_cons_succ]
      refine wpAnyS_takeL 22 rfl (by kernel_rfl) (by kernel_rfl) (by kernel_rfl) (fun _ _ _ h => h) (show YieldsIf _ _ _ _ (.bool true) _ from yieldsIf_assign rfl _ rfl _ rfl) hS ?_
      simp only [Act.put, List.setIfInBounds_toArray, List.set_cons_zero, List.set_cons_succ]
      refine wpAnyS_done (by kernel_rfl) ?_ _
      have HB := hS.1.b
      clear hS hg
      refine aK _ _ ?_
      clear aK
      refine wp_ret ?_
      exact bodyPost_ret (results_tmp rfl _ _ _) rfl ⟨rfl, HB⟩
end Go.Proofs.YtjkocockbglenaaDoor
namespace Go.Proofs.YtjkocockbglenaaDoor
open Go.RowKit Go.ChangeShapes Go.WideShapes Go.ChangeAt Go.WideMaps Go.WideElems

theorem th_data : (Rows.laid_skiff_skiffref03_thirds : DataW Unit) = Lib.tabData .u64 cuZ := rfl
theorem se_data : (Rows.laid_skiff_skiffref03_seconds : DataW Unit) = Lib.tabData .u64 sqZ := rfl
theorem gTh : Tryd.prog.globalNamed "skiff/skiffref03.thirds" = some 1 := by kernel_rfl
theorem gSe : Tryd.prog.globalNamed "skiff/skiffref03.seconds" = some 2 := by kernel_rfl
theorem tTh : (Tryd.prog.globals[1]?).map (·.type) = some 58 := by kernel_rfl
theorem tSe : (Tryd.prog.globals[2]?).map (·.type) = some 52 := by kernel_rfl
theorem ref_of_laid {W : World} {x y : String × DataW Unit} {rest : List (String × DataW Unit)} (h : laidMet Tryd.prog (x :: y :: ("skiff/skiffref03.thirds", Rows.laid_skiff_skiffref03_thirds) :: ("skiff/skiffref03.seconds", Rows.laid_skiff_skiffref03_seconds) :: rest) W) : Ref W cuT sqT := by
  have h1 := laidMet.tail (laidMet.tail h)
  have h2 := laidMet.tail h1
  rw [th_data] at h1
  rw [se_data] at h2
  have c := Lib.tabIs_of_head gTh tTh Tryd.underlying58 Tryd.underlying51 (by kernel_rfl) (by kernel_rfl) h1
  have s := Lib.tabIs_of_head gSe tSe Tryd.underlying52 Tryd.underlying51 (by kernel_rfl) (by kernel_rfl) h2
  have sc : ∀ i, i < 8 → W.cell? ⟨2, i, none⟩ = some (.int .u64 ((sqT i : Nat) : Int)) := fun i hi => by
    rw [sqT_int]
    exact s.cell gSe i (by rw [sqZ_length]; exact hi)
  have cc : ∀ i, i < 80 → W.cell? ⟨1, i, none⟩ = some (.int .u64 ((cuT i : Nat) : Int)) := fun i hi => by
    rw [cuT_int]
    exact c.cell gTh i (by rw [cuZ_length]; exact hi)
  exact ⟨cc, sc, fun i => by have := getD_all cuZ_all i; have := cuT_int i; omega, fun i => by have := getD_all sqZ_all i; have := sqT_int i; omega, World.block_lt_of_cell? _ _ (cc 0 (by decide)), World.block_lt_of_cell? _ _ (sc 0 (by decide))⟩
theorem door_met4 (os : Os) (args : Array Value) : laidMetH Tryd.prog Rows.macSumsRow.laid ((World.doorLaid Tryd.prog 29 os).forCall (fun _ _ => 0) ⟨#[], args, []⟩).memory :=
  laidMetH_of_parts3 (fuel := 8) (laidMet_of_run' 8 (by kernel_rfl) (by kernel_rfl)) (by kernel_rfl) (by kernel_rfl)
end Go.Proofs.YtjkocockbglenaaDoor
namespace Go.Proofs.YtjkocockbglenaaDoor
open Go.ChangeShapes Go.WideShapes Go.ChangeAt Go.RowKit

theorem own : ownKnob Tryd.prog.godebug = none := by kernel_rfl
theorem int_range {n : Int} (h : (Lit.int .i64 n).wf = true) : -9223372036854775808 ≤ n ∧ n ≤ 9223372036854775807 := by
  simp [Lit.wf, IntKind.min, IntKind.max, IntKind.signed, IntKind.bits] at h
  exact h
set_option maxHeartbeats 1000000 in
set_option maxRecDepth 100000 in
theorem labels_lifted (os : Os) (started : os.Started) (H : Type) (enc : TypeId × Value → H) :
    ReturnsInHanded {} Tryd.checked os 5 .any (fun w args => (Rows.macLabelsSpec.pre enc Tryd.prog Tryd.f5 [] false w args ∧ laidMetH Tryd.prog Rows.macLabelsRow.laid w) ∧ sizedMet enc Tryd.prog Tryd.f5 (OpenSpec.ofChange Rows.macLabelsSpec) false w args)
      (Rows.macLabelsSpec.post enc Tryd.prog Tryd.f5 false true false false) := by
  refine returnsInHanded_of_change_and (C := Tryd.checked) (X := fun w _ => laidMetH Tryd.prog Rows.macLabelsRow.laid w) (fun _ _ _ hh h => h.of_heap hh) own started (by kernel_rfl) Tryd.func5
    (ChangeSpec.witness_shaped (enc := enc) (C := Tryd.checked) (os := os) (X := fun w _ => laidMetH Tryd.prog Rows.macLabelsRow.laid w) false (World.doorLaid Tryd.prog 29 os) #[Key (List.replicate 32 0), .string ByteArray.empty, .slice none 0 0, .int .i64 0] 8 rfl (World.shaped_of_RefB (by kernel_rfl) (by kernel_rfl)) (by kernel_rfl) (by kernel_rfl) (by kernel_rfl) (door_met4 os _)) ?_
  intro W base args ds gs before hval0 hW _ _ hL _
  have hval : ∀ (j : Nat) t v, Tryd.f5.params[j]? = some t → args[j]? = some v → Value.okWide Tryd.prog W .any base t v := hval0
  have hW' := hW
  obtain ⟨p, q, hA0, hV, rfl, _, _⟩ := hW
  have hA : DataW.TrodAll enc Tryd.prog W 0 (fun _ => true) true Tryd.f5.params.toList args.toList ds p := hA0
  rw [Tryd.params5] at hA hval
  obtain ⟨v0, v1, v2, v3, d0, d1, d2, d3, p0, p1, p2, p3, rfl, rfl, rfl, h0, h1, h2, h3⟩ := trodAll_four hA
  obtain ⟨rfl, rfl⟩ := trodVars_none hV
  obtain ⟨k0, f0, rfl, rfl, rfl, hl0, hwf0⟩ := open_key (hval 0 25 v0 rfl rfl) h0
  obtain ⟨t1, rfl, rfl, rfl, ht1⟩ := Go.ChangeMaps.open_string Tryd.underlying9 (hval 1 9 v1 rfl rfl) h1
  obtain ⟨pt2, c2, l2, rfl, Hb2, bl2, again2⟩ := open_bytes (hval 2 22 v2 rfl rfl) h2
  obtain ⟨m3, rfl, rfl, rfl, hm3⟩ := open_int Tryd.underlying3 (hval 3 3 v3 rfl rfl) h3
  obtain ⟨lo3, hi3⟩ := int_range hm3
  clear hA0 hval0
  rw [MakeChecks.laidMetH_plain _ _ _ (by kernel_rfl)] at hL
  obtain ⟨T, S⟩ := tab_of_laid hL
  have R := ref_of_laid hL
  obtain ⟨s0, hs0, ls0, bs0⟩ := key_list hl0 hwf0
  have walk := labels_any W s0 t1 l2 _ m3 T S R ls0 bs0 Hb2 bl2
  rw [← hs0] at walk
  refine walk.mono fun e W' ⟨he, hb⟩ => ?_
  subst he
  exact ⟨_, rfl, post_below2 (pa := [] ++ ([] ++ (p2 ++ ([])))) (pv := []) hW' (fun _ _ _ => trodAll_mk1 (shut_bool Tryd.underlying4 _)) (fun sp hsp => trodAll_mk4 (shut_key k0 hl0.len hwf0) (Go.ChangeMaps.shut_string Tryd.underlying9 ht1) (again2 W' hb sp (fun x hx => hsp x (by simp [hx]))) (shut_int Tryd.underlying3 hm3)) (fun _ _ => rfl) (by simp) hb (ok_one (by kernel_rfl) rfl (okWide_bool_mk Tryd.underlying4 _))⟩

theorem labels_row : Rows.MacLabelsSaid :=
  OpenClaim.holds_of_wide 5 Tryd.f5 rfl rfl rfl rfl rfl rfl rfl ⟨rfl, rfl, rfl, rfl, rfl⟩ rfl rfl rfl rfl rfl (by kernel_rfl) Tryd.func5 (by kernel_rfl)
    (of_decide_eq_true (by kernel_rfl)) (by unfold Func.isWrapper; first | (rw [if_pos (by decide +kernel)]; kernel_rfl) | (rw [if_neg (by decide +kernel)]; exact ⟨rfl, rfl⟩))
    (fun os started H enc _ => labels_lifted os started H enc)

theorem macLabels_holds : Rows.MacLabelsCardSaid :=
  Claim7.holds_tied_plain_at .later [] [.data, .data, .data, .data] true Rows.macLabelsCard.stood.harness false
    labels_row (fun _ h => by cases h) (by kernel_rfl) (fun _ h => by cases h) macLabels_row_tie rfl ⟨rfl, rfl⟩ (by kernel_rfl) rfl
    (fun f fn hf hfn => by
      obtain rfl : f = 5 := Option.some.inj ((show Tryd.prog.funcNamed "skiff/skifflaw04.MacLabels" = some 5 by kernel_rfl).symm.trans hf) |>.symm
      obtain rfl : fn = Tryd.f5 := (Option.some.inj (Tryd.func5.symm.trans hfn)).symm
      exact ⟨by kernel_rfl, fun j t ht => by
        rw [Tryd.params5] at ht
        have hm : t ∈ [25, 9, 22, 3] := by simpa using Array.mem_of_getElem? ht
        have hall : ([25, 9, 22, 3].all fun u => !Tryd.prog.wantsStandIn u) = true := by kernel_rfl
        exact (show Tryd.prog.wantsStandIn t = false by simpa using List.all_eq_true.1 hall t hm)⟩)
    (by kernel_rfl)
#print axioms macLabels_holds
end Go.Proofs.YtjkocockbglenaaDoor
