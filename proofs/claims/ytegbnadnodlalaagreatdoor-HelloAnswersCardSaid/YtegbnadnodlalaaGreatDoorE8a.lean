/- The law's Turned: some bytes, not more than there were (printed by gen14/ep.py). -/
import Derived.Test.YtegbnadnodlalaaGreatDoorE3c0E4a
import Derived.ArgAppend
import Derived.Laws.BitsLemmas
namespace Go.Proofs.YtegbnadnodlalaaGreatDoor
open Go.RowKit
/-- Bytes in a row of the call's own, that may be written. -/
def OT (B : Nat) (w : World) (v : Value) (l : List Nat) : Prop := ∃ p c, v = .slice p l.length c ∧ l.length ≤ c ∧ (l = [] ∨ ∃ g cur, p = some ⟨g, 0, none⟩ ∧ B ≤ g ∧ Blk w g 5 cur ∧ BA w g 0 l)
theorem OT.sb {B : Nat} {w : World} {v : Value} {l : List Nat} (h : OT B w v l) : SB w v l := by
 obtain ⟨p, c, e, hc, h0 | ⟨g, cur, e2, _, _, A⟩⟩ := h
 · exact ⟨p, c, e, hc, Or.inl h0⟩
 · exact ⟨p, c, e, hc, Or.inr ⟨g, 0, e2, A⟩⟩
theorem OT.of {B : Nat} {w : World} {v : Value} {l : List Nat} (h : OwL B w v l) : OT B w v l := by
 rcases h.row with ⟨rfl, rfl⟩ | ⟨g, cap, rfl, hB, hc, _, A, cur, K, _⟩
 · exact ⟨none, 0, rfl, Nat.le_refl _, Or.inl rfl⟩
 · exact ⟨_, cap, rfl, hc, Or.inr ⟨g, cur, rfl, hB, K, A⟩⟩
theorem OT.below {B : Nat} {w w' : World} {v : Value} {l : List Nat} (h : OT B w v l) (b : Below w.heap.size w w') : OT B w' v l := by
 obtain ⟨p, c, e, hc, h0 | ⟨g, cur, e2, hB, K, A⟩⟩ := h
 · exact ⟨p, c, e, hc, Or.inl h0⟩
 · exact ⟨p, c, e, hc, Or.inr ⟨g, cur, e2, hB, K.below' b, A.below b⟩⟩
theorem ba_put {w : World} {g : Nat} {cur : Array Value} {l : List Nat} (K : Blk w g 5 cur) (A : BA w g 0 l) (k t : Nat) (hk : k < l.length) : Blk (w.setCell ⟨g, k, none⟩ (.int .u8 (t : Int))) g 5 (cur.setIfInBounds k (.int .u8 (t : Int))) ∧ BA (w.setCell ⟨g, k, none⟩ (.int .u8 (t : Int))) g 0 (l.set k t) := by
 have K2 := K.set k (.int .u8 (t : Int))
 refine ⟨K2, fun i hi => ?_, K2.lt⟩
 rw [List.length_set] at hi
 have h1 := A.cell i hi
 rw [Nat.zero_add, K.cell] at h1
 rw [Nat.zero_add, K2.cell, Array.getElem?_setIfInBounds]
 by_cases e : k = i
 ·
  subst e
  rw [if_pos rfl, if_pos (Array.getElem?_eq_some_iff.1 h1).1, List.getElem_set_self]
 · rw [if_neg e, h1, List.getElem_set_ne e]
/-- What a slice of numbers reads, place by place. -/
def IA (W : World) (p : Option Addr) (n : Nat) : Prop := ∀ j, j < n → ∃ g o z, p = some ⟨g, o, none⟩ ∧ g < W.heap.size ∧ W.cell? ⟨g, o + j, none⟩ = some (.int .i64 z)
def P8 (r s : Nat) : Prop := (r = 0 ∧ s = 1) ∨ (r = 1 ∧ s = 2) ∨ (r = 2 ∧ s = 4) ∨ (r = 3 ∧ s = 8) ∨ (r = 4 ∧ s = 16) ∨ (r = 5 ∧ s = 32) ∨ (r = 6 ∧ s = 64) ∨ (r = 7 ∧ s = 128)
theorem p8_of (r : Nat) (h : r < 8) : ∃ s, P8 r s ∧ s < 256 := by
 have : r = 0 ∨ r = 1 ∨ r = 2 ∨ r = 3 ∨ r = 4 ∨ r = 5 ∨ r = 6 ∨ r = 7 := by omega
 rcases this with rfl | rfl | rfl | rfl | rfl | rfl | rfl | rfl
 · exact ⟨1, by unfold P8; omega, by decide⟩
 · exact ⟨2, by unfold P8; omega, by decide⟩
 · exact ⟨4, by unfold P8; omega, by decide⟩
 · exact ⟨8, by unfold P8; omega, by decide⟩
 · exact ⟨16, by unfold P8; omega, by decide⟩
 · exact ⟨32, by unfold P8; omega, by decide⟩
 · exact ⟨64, by unfold P8; omega, by decide⟩
 · exact ⟨128, by unfold P8; omega, by decide⟩
/-- A place struck out. -/
theorem cut_run (B : Nat) (w0 w : World) (ty : TypeId) (g c k : Nat) (l : List Nat) (cur : Array Value) (hB : B ≤ g) (K : Blk w g 5 cur) (A : BA w g 0 l) (hk : k < l.length) (hc : l.length ≤ c) (hl : l.length ≤ 1000000) (b : Below B w0 w) (hBw : B ≤ w.heap.size) :
  ∃ v' w', (Builtin.append_ #[29, 29] ty #[.slice (some ⟨g, 0, none⟩) k k, .slice (tailP (some ⟨g, 0, none⟩) c (k + 1)) (l.length - (k + 1)) (c - (k + 1))]).run Tryz.prog w = .ok v' w' ∧ OT B w' v' (l.take k ++ l.drop (k + 1)) ∧ Below B w0 w' := by
 have lt : (l.take k).length = k := by rw [List.length_take]; omega
 by_cases h0 : l.length - (k + 1) = 0
 ·
  rw [h0]
  have ed : l.drop (k + 1) = [] := List.drop_of_length_le (by omega)
  refine ⟨_, _, append_none w ty _ _ k k _ (some ⟨g, 0, none⟩) rfl (Nat.le_refl _), ?_, b⟩
  rw [ed, List.append_nil]
  exact ⟨_, k, by rw [lt], by omega, Or.inr ⟨g, cur, rfl, hB, K, A.take k⟩⟩
 ·
  have et : tailP (some (⟨g, 0, none⟩ : Addr)) c (k + 1) = some ⟨g, k + 1, none⟩ := by
   unfold tailP
   simp only [Option.map_some]
   rw [if_neg (by omega), Addr.add_lit, Nat.zero_add]
  rw [et]
  obtain ⟨i, hi, hs, hy, hz⟩ := info_u8
  have ld : (vals (l.drop (k + 1))).length = l.length - (k + 1) := by rw [vals_length, List.length_drop]
  have AD := A.drop (k + 1)
  rw [Nat.zero_add] at AD
  obtain ⟨v', w', hr, h2, h3⟩ := run_append_arg_grows (P := Tryz.prog) w 29 ty 5 i (.int .u8 0) 1 1 Tryz.underlying29 hi hz hs hy rfl (by decide) ⟨g, 0, none⟩ k k (vals (l.take k)) (by rw [vals_length, lt, Nat.mul_one]) (fun j u hu => cells_at (A.take k) j u hu) ⟨g, k + 1, none⟩ (l.length - (k + 1)) (c - (k + 1)) (vals (l.drop (k + 1))) (by rw [ld, Nat.mul_one]) (fun j u hu => cells_at AD j u hu) (by omega) (by simp only [maxLen]; omega) (by omega)
  refine ⟨v', w', hr, OT.of ?_, below_grown' b h3 (fun k e => by cases e) hBw⟩
  refine OwL.mono (B := w.heap.size) ?_ hBw
  unfold OwL
  rw [List.length_append, lt, List.length_drop, vals_append]
  exact h2
def TurnPost (l : List Nat) (W : World) (e : Ending) (w' : World) : Prop := (∃ v l', e = .returned v ∧ SB w' v l' ∧ Bytes l' ∧ l'.length ≤ l.length) ∧ Below W.heap.size W w'
set_option maxHeartbeats 8000000 in
set_option maxRecDepth 100000 in
theorem turned_c (l : List Nat) (pb : Option Addr) (nb cb : Nat) (hn : nb ≤ 100000) (bl : Bytes l) (pa : Option Addr) (na ca : Nat) (y : List Nat) (py : Option Addr) (ny cy : Nat) (W : World) (hs : SB W (.slice pb nb cb) l) (ha : IA W pa na) (by_ : Bytes y) (hy : SB W (.slice py ny cy) y) :
  Calls Tryz.prog 9 #[.slice pb nb cb, .slice pa na ca, .slice py ny cy] W (TurnPost l W) := by
 have b1 := (Below.refl W.heap.size W).alloc (Nat.le_refl _) (.cells #[] 5)
 have ln := hs.len.1
 have lny := hy.len.1
 obtain ⟨va, w3, h1, O3, b3⟩ := append_more W.heap.size W _ 29 _ (.slice pb nb cb) [] l (OwL.new W.heap.size W [] (Nat.le_refl _) (Nat.zero_le _)) (hs.below b1) (by simp only [List.length_nil]; omega) b1 b1.size
 rw [List.nil_append] at O3
 have D := Lib.hid (show OT W.heap.size w3 va l ∧ Bytes l ∧ l.length ≤ l.length ∧ Below W.heap.size W w3 from ⟨OT.of O3, bl, Nat.le_refl _, b3⟩)
 have HA := Lib.hid ha
 have HY := Lib.hid (fun j (hj : j < ny) => show ∃ g o x, py = some ⟨g, o, none⟩ ∧ g < W.heap.size ∧ W.cell? ⟨g, o + j, none⟩ = some (.int .u8 ((x : Nat) : Int)) ∧ x < 256 from by
  rcases hy.at_ with h0 | ⟨g, o, e, A⟩
  · omega
  · exact ⟨g, o, _, e, A.blk, A.cell j (by omega), by_ _ (List.getElem_mem (by omega))⟩)
 have LB := Lib.hid (show l.length ≤ 100000 by omega)
 replace h1 := Lib.hid h1
 clear hs ha hy by_ bl O3 b3 b1 ln lny hn
 go_enter Tryz.func9, Tryz.ntmps9
 go_upto_region 1 with fail
 rename_i aK
 refine wp_region_seq ?_
 refine wpSeq_wp rfl (wp_build_run _ rfl _ _ (run_buildSlice_none _) ?_)
 simp only [AP]
 refine smv (.slice pb nb cb) rfl rfl rfl ?_
 simp only [AP]
 refine wpSeq_wp rfl (wp_append_run _ _ _ _ rfl _ _ rfl rfl _ w3 h1.out ?_)
 simp only [AP]
 refine sas (va) rfl rfl rfl ?_
 simp only [AP]
 refine wpSeq_nil ?_
 refine (by assumption : ∀ (a : Act) (w : World), _ → _) _ _ ?_
 clear h1
 go_upto_region 2 with fail
 rename_i aK
 refine wp_region_seq ?_
 refine sas (.int .i64 0) rfl rfl rfl ?_
 simp only [AP]
 refine wpSeq_nil ?_
 refine (by assumption : ∀ (a : Act) (w : World), _ → _) _ _ ?_
 go_upto_region 3 with fail
 go_loopw [7, 8, 9] (fun v7 v _ wr => ∃ (j : Nat) (l' : List Nat), j ≤ 4 ∧ v = .int .i64 (j : Int) ∧ OT W.heap.size wr v7 l' ∧ Bytes l' ∧ l'.length ≤ l.length ∧ Below W.heap.size W wr) (fun _ v _ _ => (4 - intOf v).toNat)
 case atStart => exact ⟨0, l, by omega, rfl, D.out.1, D.out.2.1, D.out.2.2.1, D.out.2.2.2⟩
 case round =>
  clear D
  obtain ⟨j, l', jm, rfl, OO, bl, ll, b0⟩ := hrel
  obtain ⟨p7, c7, hv, hc, oo⟩ := OO
  obtain ⟨m, hm⟩ : ∃ m, l'.length = m := ⟨_, rfl⟩
  rw [hm] at hv hc
  subst hv
  have HM := Lib.hid hm
  by_cases g4 : j < na ∧ j < ny ∧ j < 4 ∧ 0 < m
  ·
   obtain ⟨g1, g2, g3, g4⟩ := g4
   obtain ⟨ga, oa, z, hpa, lga, caa⟩ := HA.out j g1
   obtain ⟨gy, oy, x, hpy, lgy, cyy, x8⟩ := HY.out j g2
   subst hpa hpy
   obtain ⟨g, cur, hp7, gB, K, A⟩ : ∃ g cur, p7 = some ⟨g, 0, none⟩ ∧ W.heap.size ≤ g ∧ Blk wr g 5 cur ∧ BA wr g 0 l' := by
    rcases oo with h | h
    ·
     rw [h] at hm
     simp only [List.length_nil] at hm
     omega
    · exact h
   subst hp7
   have cz : wr.cell? ⟨ga, oa + j, none⟩ = some (.int .i64 z) := (b0.cell (p := ⟨ga, oa + j, none⟩) lga).trans caa
   have cx : wr.cell? ⟨gy, oy + j, none⟩ = some (.int .u8 (x : Int)) := (b0.cell (p := ⟨gy, oy + j, none⟩) lgy).trans cyy
   obtain ⟨U, hU⟩ : ∃ U : Nat, IntKind.u64.wrap z = (U : Int) := ⟨(IntKind.u64.wrap z).toNat, by rw [IntKind.wrap_u64]; omega⟩
   have hU2 : U < 18446744073709551616 := by rw [IntKind.wrap_u64] at hU; omega
   obtain ⟨k, hk⟩ : ∃ k, U % m = k := ⟨_, rfl⟩
   have km : k < m := by rw [← hk]; exact Nat.mod_lt _ g4
   have m1 : ((U : Nat) : Int).tmod (m : Int) = (k : Int) := by rw [Int.tmod_eq_emod_of_nonneg (by omega), ← hk]; omega
   have m6 : IntKind.u64.wrap (m : Int) = (m : Int) := by have := LB.out; rw [IntKind.wrap_u64]; omega
   have m7 : IntKind.i64.wrap (k : Int) = (k : Int) := by have := LB.out; rw [IntKind.wrap_i64]; omega
   have m2 : ¬ (m : Int) = 0 := by omega
   have m3 : ¬ m = 0 := by omega
   have m8 : IntKind.u64.wrap (k : Int) = (k : Int) := by have := LB.out; rw [IntKind.wrap_u64]; omega
   obtain ⟨r, hr⟩ : ∃ r, x % 9 = r := ⟨_, rfl⟩
   have r1 : ((x : Nat) : Int).tmod 9 = (r : Int) := by rw [Int.tmod_eq_emod_of_nonneg (by omega), ← hr]; omega
   have r9 : r < 9 := by omega
   have r2 : IntKind.u8.wrap (r : Int) = (r : Int) := by rw [IntKind.wrap_u8]; omega
   have z1 : (j : Int) < (na : Int) ∧ (j : Int) < (ny : Int) ∧ (j : Int) < 4 ∧ (0 : Int) < (m : Int) ∧ (0 : Int) ≤ (j : Int) := by omega
   obtain ⟨z1, z2, z3, z4, z0⟩ := z1
   have e5 : IntKind.i64.wrap ((j : Int) + 1) = ((j + 1 : Nat) : Int) := by rw [IntKind.wrap_i64]; omega
   have e5 := Lib.hid e5
   have KM := Lib.hid (And.intro km (And.intro hc (And.intro gB (And.intro g3 (And.intro bl ll)))))
   have CY := Lib.hid (fun (w : World) (h : Below wr.heap.size wr w) => (h.cell (p := ⟨gy, oy + j, none⟩) (Nat.lt_of_lt_of_le lgy b0.size)).trans cx)
   have CM := Lib.hid (show (m : Int) ≤ (c7 : Int) ∧ (k : Int) ≤ (c7 : Int) ∧ (0 : Int) ≤ (k : Int) ∧ ((k + 1 : Nat) : Int) ≤ (m : Int) from by omega)
   clear g1 g2 g3 g4 jm hm lga lgy caa cyy hU2 hk km hr hc gB bl ll oo x8
   go_upto_region 3 with fail
   rename_i aK
   refine wp_region_seq ?_
   refine smv (.int .i64 (j : Int)) rfl rfl rfl ?_
   simp only [AP]
   refine smv (.slice (some ⟨ga, oa, none⟩) na ca) rfl rfl rfl ?_
   simp only [AP]
   refine svl (.int .i64 (na : Int)) (.inl ⟨by rfl, fun w' _ => by go_simp⟩) ?_
   simp only [AP]
   refine svl (.bool true) (.inl ⟨by rfl, fun w' _ => by (go_simp; try omega)⟩) ?_
   simp only [AP]
   refine smv (.bool true) rfl rfl rfl ?_
   simp only [AP]
   refine smv (.int .i64 (j : Int)) rfl rfl rfl ?_
   simp only [AP]
   refine smv (.slice (some ⟨gy, oy, none⟩) ny cy) rfl rfl rfl ?_
   simp only [AP]
   refine svl (.int .i64 (ny : Int)) (.inl ⟨by rfl, fun w' _ => by go_simp⟩) ?_
   simp only [AP]
   refine svl (.bool true) (.inl ⟨by rfl, fun w' _ => by (go_simp; try omega)⟩) ?_
   simp only [AP]
   refine wpSeq_yield (S := fun _ => True) (yieldsIf_pick rfl _ _ _ rfl true rfl (.bool true) rfl) trivial ?_
   simp only [AP]
   refine smv (.bool true) rfl rfl rfl ?_
   simp only [AP]
   refine smv (.int .i64 (j : Int)) rfl rfl rfl ?_
   simp only [AP]
   refine svl (.bool true) (.inl ⟨by rfl, fun w' _ => by (go_simp; try omega)⟩) ?_
   simp only [AP]
   refine wpSeq_yield (S := fun _ => True) (yieldsIf_pick rfl _ _ _ rfl true rfl (.bool true) rfl) trivial ?_
   simp only [AP]
   refine smv (.bool true) rfl rfl rfl ?_
   simp only [AP]
   refine smv (.slice (some ⟨g, 0, none⟩) m c7) rfl rfl rfl ?_
   simp only [AP]
   refine svl (.int .i64 (m : Int)) (.inl ⟨by rfl, fun w' _ => by go_simp⟩) ?_
   simp only [AP]
   refine svl (.bool true) (.inl ⟨by rfl, fun w' _ => by (go_simp; try omega)⟩) ?_
   simp only [AP]
   refine wpSeq_yield (S := fun _ => True) (yieldsIf_pick rfl _ _ _ rfl true rfl (.bool true) rfl) trivial ?_
   simp only [AP]
   refine wpSeq_nil ?_
   refine (by assumption : ∀ (a : Act) (w : World), _ → _) _ _ ?_
   go_upto_region 5 with fail
   rename_i aK
   refine wp_region_seq ?_
   refine smv (.slice (some ⟨ga, oa, none⟩) na ca) rfl rfl rfl ?_
   simp only [AP]
   refine smv (.int .i64 (j : Int)) rfl rfl rfl ?_
   simp only [AP]
   refine svl (.pointer (some ⟨ga, oa + j, none⟩)) (.inl ⟨by rfl, fun w' _ => by (go_simp)⟩) ?_
   simp only [AP]
   refine wpSeq_yield (S := fun w' => w' = wr) (v := .int .i64 z) (Or.inl ⟨by rfl, fun w' hw' => by (rw [hw']; go_simp)⟩) rfl ?_
   simp only [AP]
   refine svl (.int .u64 (U : Int)) (.inl ⟨by rfl, fun w' _ => by go_simp⟩) ?_
   simp only [AP]
   refine smv (.slice (some ⟨g, 0, none⟩) m c7) rfl rfl rfl ?_
   simp only [AP]
   refine svl (.int .i64 (m : Int)) (.inl ⟨by rfl, fun w' _ => by go_simp⟩) ?_
   simp only [AP]
   refine svl (.int .u64 (m : Int)) (.inl ⟨by rfl, fun w' _ => by go_simp⟩) ?_
   simp only [AP]
   refine svl (.int .u64 (k : Int)) (.inl ⟨by rfl, fun w' _ => by go_simp⟩) ?_
   simp only [AP]
   refine svl (.int .i64 (k : Int)) (.inl ⟨by rfl, fun w' _ => by go_simp⟩) ?_
   simp only [AP]
   refine sas (.int .i64 (k : Int)) rfl rfl rfl ?_
   simp only [AP]
   refine wpSeq_nil ?_
   refine (by assumption : ∀ (a : Act) (w : World), _ → _) _ _ ?_
   clear m1 m6 m7 m2 m3 m8 cz hU
   by_cases r8 : r = 8
   ·
    subst r8
    go_upto_region 6 with fail
    rename_i aK
    refine wp_region_seq ?_
    refine smv (.slice (some ⟨gy, oy, none⟩) ny cy) rfl rfl rfl ?_
    simp only [AP]
    refine smv (.int .i64 (j : Int)) rfl rfl rfl ?_
    simp only [AP]
    refine svl (.pointer (some ⟨gy, oy + j, none⟩)) (.inl ⟨by rfl, fun w' _ => by (go_simp)⟩) ?_
    simp only [AP]
    refine wpSeq_yield (S := fun w' => w' = wr) (v := .int .u8 (x : Int)) (Or.inl ⟨by rfl, fun w' hw' => by (rw [hw']; go_simp)⟩) rfl ?_
    simp only [AP]
    refine svl (.int .u8 8) (.inl ⟨by rfl, fun w' _ => by go_simp⟩) ?_
    simp only [AP]
    refine svl (.bool true) (.inl ⟨by rfl, fun w' _ => by go_simp⟩) ?_
    simp only [AP]
    refine wpSeq_nil ?_
    refine (by assumption : ∀ (a : Act) (w : World), _ → _) _ _ ?_
    clear cx r1 r2 CY
    have bd := below_drew (Below.refl wr.heap.size wr)
    replace K := K.below' bd
    replace A := A.below bd
    replace b0 := b0.trans (bd.mono b0.size)
    clear bd
    have lm := HM.out
    obtain ⟨v', w5, h1, O5, b5⟩ := cut_run W.heap.size W wr.drew 29 g c7 k l' cur KM.out.2.2.1 K A (by rw [lm]; exact KM.out.1) (by rw [lm]; exact KM.out.2.1) (by have := LB.out; have := KM.out.2.2.2.2.2; omega) b0 b0.size
    rw [lm] at h1
    replace h1 := Lib.hid h1
    have kp : IntKind.i64.wrap ((k : Int) + 1) = ((k + 1 : Nat) : Int) := by have := LB.out; have := KM.out; rw [IntKind.wrap_i64]; omega
    have q1 : (0 : Int) ≤ (k : Int) := by omega
    have q2 : (k : Int) ≤ (c7 : Int) := by have := KM.out; omega
    clear K A b0 r9
    go_upto_region 7 with fail
    rename_i aK
    refine wp_region_S (S := fun _ => True) (by kernel_rfl) ?_
    generalize wr.drew = w4 at *
    have hS := trivial
    refine wpAnyS_takeL 0 (v := .slice (some ⟨g, 0, none⟩) m c7) rfl (by kernel_rfl) (by kernel_rfl) (by kernel_rfl) (fun _ _ _ H => H) (yieldsIf_move rfl _ rfl (.slice (some ⟨g, 0, none⟩) m c7) rfl) hS ?_
    simp only [AP]
    refine wpAnyS_takeL 1 (v := .int .i64 (k : Int)) rfl (by kernel_rfl) (by kernel_rfl) (by kernel_rfl) (fun _ _ _ H => H) (yieldsIf_move rfl _ rfl (.int .i64 (k : Int)) rfl) hS ?_
    simp only [AP]
    refine wpAnyS_takeL 2 (v := .int .i64 (k : Int)) rfl (by kernel_rfl) (by kernel_rfl) (by kernel_rfl) (fun _ _ _ H => H) (yieldsIf_move rfl _ rfl (.int .i64 (k : Int)) rfl) hS ?_
    simp only [AP]
    refine wpAnyS_takeL 3 (v := .slice (some ⟨g, 0, none⟩) k k) rfl (by kernel_rfl) (by kernel_rfl) (by kernel_rfl) (fun _ _ _ H => H) (Or.inl ⟨by rfl, fun w' hw' => by (go_simp)⟩) hS ?_
    simp only [AP]
    refine wpAnyS_takeL 4 (v := .slice (some ⟨g, 0, none⟩) m c7) rfl (by kernel_rfl) (by kernel_rfl) (by kernel_rfl) (fun _ _ _ H => H) (yieldsIf_move rfl _ rfl (.slice (some ⟨g, 0, none⟩) m c7) rfl) hS ?_
    simp only [AP]
    refine wpAnyS_takeL 5 (v := .int .i64 (k : Int)) rfl (by kernel_rfl) (by kernel_rfl) (by kernel_rfl) (fun _ _ _ H => H) (yieldsIf_move rfl _ rfl (.int .i64 (k : Int)) rfl) hS ?_
    simp only [AP]
    refine wpAnyS_takeL 6 (v := .int .i64 ((k + 1 : Nat) : Int)) rfl (by kernel_rfl) (by kernel_rfl) (by kernel_rfl) (fun _ _ _ H => H) (Or.inl ⟨by rfl, fun w' hw' => by go_simp⟩) hS ?_
    simp only [AP]
    refine wpAnyS_takeL 7 (v := .slice (tailP (some ⟨g, 0, none⟩) c7 (k + 1)) (m - (k + 1)) (c7 - (k + 1))) rfl (by kernel_rfl) (by kernel_rfl) (by kernel_rfl) (fun _ _ _ H => H) (yieldsIf_tail rfl _ _ rfl (some ⟨g, 0, none⟩) m c7 (k + 1) rfl rfl (by have := KM.out; omega) KM.out.2.1) hS ?_
    simp only [AP]
    refine gstep 8 rfl rfl (by kernel_rfl) (wp_append_run _ _ _ _ rfl _ _ rfl rfl _ w5 h1.out ?_)
    simp only [AP]
    refine ⟨trivial, ?_⟩
    clear h1
    refine wpAnyS_takeL 9 (v := v') rfl (by kernel_rfl) (by kernel_rfl) (by kernel_rfl) (fun _ _ _ H => H) (yieldsIf_assign rfl _ rfl (v') rfl) hS ?_
    simp only [AP]
    refine wpAnyS_done (by kernel_rfl) ?_ _
    refine (by assumption : ∀ (a : Act) (w : World), _ → _) _ _ ?_
    clear aK kp q1 q2
    have D := Lib.hid (show OT W.heap.size w5 v' (l'.take k ++ l'.drop (k + 1)) ∧ Bytes (l'.take k ++ l'.drop (k + 1)) ∧ (l'.take k ++ l'.drop (k + 1)).length ≤ l.length ∧ Below W.heap.size W w5 from ⟨O5, (KM.out.2.2.2.2.1.take k).append (KM.out.2.2.2.2.1.drop (k + 1)), by rw [List.length_append, List.length_take, List.length_drop]; have := KM.out; omega, b5⟩)
    have J4 := Lib.hid (show j + 1 ≤ 4 from KM.out.2.2.2.1)
    clear O5 b5 lm
    have e5 := e5.out
    go_upto_region 4 with fail
    rename_i aK
    refine wp_region_seq ?_
    refine smv (.int .i64 (j : Int)) rfl rfl rfl ?_
    simp only [AP]
    refine svl (.int .i64 ((j + 1 : Nat) : Int)) (.inl ⟨by rfl, fun w' _ => by go_simp⟩) ?_
    simp only [AP]
    refine sas (.int .i64 ((j + 1 : Nat) : Int)) rfl rfl rfl ?_
    simp only [AP]
    refine wpSeq_nil ?_
    go_wp2
    exact ⟨⟨j + 1, _, J4.out, rfl, D.out.1, D.out.2.1, D.out.2.2.1, D.out.2.2.2⟩, by simp only [intOf]; have := J4.out; omega⟩
   ·
    have r7 : r < 8 := by omega
    obtain ⟨s, hs, s8⟩ := p8_of r r7
    have q8 : ¬ (r : Int) = 8 := by omega
    have kl : k < l'.length := by rw [HM.out]; exact KM.out.1
    have ck := A.cell k kl
    rw [Nat.zero_add] at ck
    obtain ⟨x0, hx0⟩ : ∃ x, l'[k]'kl = x := ⟨_, rfl⟩
    have x08 : x0 < 256 := by rw [← hx0]; exact KM.out.2.2.2.2.1 _ (List.getElem_mem kl)
    rw [hx0] at ck
    obtain ⟨t, ht⟩ : ∃ t, x0 ^^^ s = t := ⟨_, rfl⟩
    have f2 : bits .xor .u8 (x0 : Int) (s : Int) = (t : Int) := by rw [← ht]; exact u8_xor_nat x0 s x08 s8
    have t8 : t < 256 := by rw [← ht]; exact Nat.xor_lt_two_pow (n := 8) x08 s8
    have HS := Lib.hid hs
    have T8 := Lib.hid t8
    have R7 := Lib.hid r7
    clear hs s8 x08 ht t8 r9 r7 hx0 r8
    go_upto_region 6 with fail
    rename_i aK
    refine wp_region_seq ?_
    refine smv (.slice (some ⟨gy, oy, none⟩) ny cy) rfl rfl rfl ?_
    simp only [AP]
    refine smv (.int .i64 (j : Int)) rfl rfl rfl ?_
    simp only [AP]
    refine svl (.pointer (some ⟨gy, oy + j, none⟩)) (.inl ⟨by rfl, fun w' _ => by (go_simp)⟩) ?_
    simp only [AP]
    refine wpSeq_yield (S := fun w' => w' = wr) (v := .int .u8 (x : Int)) (Or.inl ⟨by rfl, fun w' hw' => by (rw [hw']; go_simp)⟩) rfl ?_
    simp only [AP]
    refine svl (.int .u8 (r : Int)) (.inl ⟨by rfl, fun w' _ => by go_simp⟩) ?_
    simp only [AP]
    refine svl (.bool false) (.inl ⟨by rfl, fun w' _ => by go_simp⟩) ?_
    simp only [AP]
    refine wpSeq_nil ?_
    refine (by assumption : ∀ (a : Act) (w : World), _ → _) _ _ ?_
    clear cx q8
    have bd := below_drew (Below.refl wr.heap.size wr)
    replace K := K.below' bd
    replace A := A.below bd
    have ck2 : wr.drew.cell? ⟨g, k, none⟩ = some (.int .u8 (x0 : Int)) := ck
    have cy2 := CY.out wr.drew bd
    replace b0 := b0.trans (bd.mono b0.size)
    clear bd ck CY
    have fk := K.frozen k
    have PU := ba_put K A k t kl
    have q1 : (0 : Int) ≤ (k : Int) := by omega
    have q3 : (k : Int) < (m : Int) := by have := KM.out; omega
    go_upto_region 8 with fail
    rename_i aK
    refine wp_region_Z (S := fun w' => w'.cell? ⟨g, k, none⟩ = some (.int .u8 (x0 : Int)) ∧ w'.cell? ⟨gy, oy + j, none⟩ = some (.int .u8 (x : Int))) 12 (by kernel_rfl) ?_
    generalize wr.drew = w4 at *
    have hS := And.intro ck2 cy2
    clear cy2
    refine wpAnyZ_takeL 0 (v := .slice (some ⟨g, 0, none⟩) m c7) rfl (by kernel_rfl) (by kernel_rfl) (by kernel_rfl) (by kernel_rfl) (by kernel_rfl) (fun _ _ _ H => H) (yieldsIf_move rfl _ rfl (.slice (some ⟨g, 0, none⟩) m c7) rfl) hS ?_
    simp only [AP]
    refine wpAnyZ_takeL 1 (v := .int .i64 (k : Int)) rfl (by kernel_rfl) (by kernel_rfl) (by kernel_rfl) (by kernel_rfl) (by kernel_rfl) (fun _ _ _ H => H) (yieldsIf_move rfl _ rfl (.int .i64 (k : Int)) rfl) hS ?_
    simp only [AP]
    refine wpAnyZ_takeL 2 (v := .pointer (some ⟨g, k, none⟩)) rfl (by kernel_rfl) (by kernel_rfl) (by kernel_rfl) (by kernel_rfl) (by kernel_rfl) (fun _ _ _ H => H) (Or.inl ⟨by rfl, fun w' hw' => by (go_simp)⟩) hS ?_
    simp only [AP]
    refine wpAnyZ_takeL 3 (v := .int .u8 (x0 : Int)) rfl (by kernel_rfl) (by kernel_rfl) (by kernel_rfl) (by kernel_rfl) (by kernel_rfl) (fun _ _ _ H => H) (Or.inl ⟨by rfl, fun w' hw' => by (have cc := hw'.1; go_simp)⟩) hS ?_
    simp only [AP]
    refine wpAnyZ_takeL 4 (v := .slice (some ⟨gy, oy, none⟩) ny cy) rfl (by kernel_rfl) (by kernel_rfl) (by kernel_rfl) (by kernel_rfl) (by kernel_rfl) (fun _ _ _ H => H) (yieldsIf_move rfl _ rfl (.slice (some ⟨gy, oy, none⟩) ny cy) rfl) hS ?_
    simp only [AP]
    refine wpAnyZ_takeL 5 (v := .int .i64 (j : Int)) rfl (by kernel_rfl) (by kernel_rfl) (by kernel_rfl) (by kernel_rfl) (by kernel_rfl) (fun _ _ _ H => H) (yieldsIf_move rfl _ rfl (.int .i64 (j : Int)) rfl) hS ?_
    simp only [AP]
    refine wpAnyZ_takeL 6 (v := .pointer (some ⟨gy, oy + j, none⟩)) rfl (by kernel_rfl) (by kernel_rfl) (by kernel_rfl) (by kernel_rfl) (by kernel_rfl) (fun _ _ _ H => H) (Or.inl ⟨by rfl, fun w' hw' => by (go_simp)⟩) hS ?_
    simp only [AP]
    refine wpAnyZ_takeL 7 (v := .int .u8 (x : Int)) rfl (by kernel_rfl) (by kernel_rfl) (by kernel_rfl) (by kernel_rfl) (by kernel_rfl) (fun _ _ _ H => H) (Or.inl ⟨by rfl, fun w' hw' => by (have cc := hw'.2; go_simp)⟩) hS ?_
    simp only [AP]
    refine wpAnyZ_takeL 8 (v := .int .u8 (r : Int)) rfl (by kernel_rfl) (by kernel_rfl) (by kernel_rfl) (by kernel_rfl) (by kernel_rfl) (fun _ _ _ H => H) (Or.inl ⟨by rfl, fun w' hw' => by go_simp⟩) hS ?_
    simp only [AP]
    refine wpAnyZ_takeL 9 (v := .int .u8 (s : Int)) rfl (by kernel_rfl) (by kernel_rfl) (by kernel_rfl) (by kernel_rfl) (by kernel_rfl) (fun _ _ _ H => H) (Or.inl ⟨by rfl, fun w' hw' => by (rcases HS.out with ⟨h1, h2⟩ | ⟨h1, h2⟩ | ⟨h1, h2⟩ | ⟨h1, h2⟩ | ⟨h1, h2⟩ | ⟨h1, h2⟩ | ⟨h1, h2⟩ | ⟨h1, h2⟩ <;> (subst h1 h2; go_simp; try decide))⟩) hS ?_
    simp only [AP]
    refine wpAnyZ_takeL 10 (v := .int .u8 (t : Int)) rfl (by kernel_rfl) (by kernel_rfl) (by kernel_rfl) (by kernel_rfl) (by kernel_rfl) (fun _ _ _ H => H) (Or.inl ⟨by rfl, fun w' hw' => by go_simp⟩) hS ?_
    simp only [AP]
    refine wpAnyZ_takeL 11 (v := .pointer (some ⟨g, k, none⟩)) rfl (by kernel_rfl) (by kernel_rfl) (by kernel_rfl) (by kernel_rfl) (by kernel_rfl) (fun _ _ _ H => H) (Or.inl ⟨by rfl, fun w' hw' => by (go_simp)⟩) hS ?_
    simp only [AP]
    clear hS r1 r2 f2 HS
    refine hzstep 12 rfl (by kernel_rfl) rfl ?_
    unfold Oper.wp execOp
    go_simp
    refine wpAnyZ_done (by kernel_rfl) ?_ _
    refine (by assumption : ∀ (a : Act) (w : World), _ → _) _ _ ?_
    have gg := KM.out.2.2.1
    have GG := gb_set (rfl : g = g) w4 k (.int .u8 (t : Int))
    replace b0 := below_gb b0 GG gg b0.size
    have D := Lib.hid (show OT W.heap.size (w4.setCell ⟨g, k, none⟩ (.int .u8 (t : Int))) (.slice (some ⟨g, 0, none⟩) m c7) (l'.set k t) ∧ Bytes (l'.set k t) ∧ (l'.set k t).length ≤ l.length ∧ Below W.heap.size W (w4.setCell ⟨g, k, none⟩ (.int .u8 (t : Int))) from ⟨⟨_, c7, by rw [List.length_set, HM.out], by rw [List.length_set, HM.out]; exact KM.out.2.1, Or.inr ⟨g, _, rfl, gg, PU.1, PU.2⟩⟩, fun y hy => by
     rcases List.mem_or_eq_of_mem_set hy with h | h
     · exact KM.out.2.2.2.2.1 y h
     · rw [h]; exact T8.out, by rw [List.length_set]; exact KM.out.2.2.2.2.2, b0⟩)
    have J4 := Lib.hid (show j + 1 ≤ 4 from KM.out.2.2.2.1)
    clear PU gg GG b0 K A fk ck2 q1 q3 aK
    generalize World.setCell w4 _ _ = w5 at *
    have e5 := e5.out
    go_upto_region 4 with fail
    rename_i aK
    refine wp_region_seq ?_
    refine smv (.int .i64 (j : Int)) rfl rfl rfl ?_
    simp only [AP]
    refine svl (.int .i64 ((j + 1 : Nat) : Int)) (.inl ⟨by rfl, fun w' _ => by go_simp⟩) ?_
    simp only [AP]
    refine sas (.int .i64 ((j + 1 : Nat) : Int)) rfl rfl rfl ?_
    simp only [AP]
    refine wpSeq_nil ?_
    go_wp2
    exact ⟨⟨j + 1, _, J4.out, rfl, D.out.1, D.out.2.1, D.out.2.2.1, D.out.2.2.2⟩, by simp only [intOf]; have := J4.out; omega⟩
  ·
   have SX := Lib.hid (OT.sb (show OT W.heap.size wr (.slice p7 m c7) l' from ⟨p7, c7, by rw [hm], by rw [hm]; exact hc, oo⟩))
   have BX := Lib.hid bl
   have LX := Lib.hid ll
   clear HA HY oo bl ll hm hc jm
   by_cases g1 : j < na
   ·
    by_cases g2 : j < ny
    ·
     by_cases g3 : j < 4
     ·
      have z1 : (j : Int) < (na : Int) ∧ (j : Int) < (ny : Int) ∧ (j : Int) < 4 ∧ ¬ (0 : Int) < (m : Int) := by omega
      obtain ⟨z1, z2, z3, z4⟩ := z1
      clear g1 g2 g3 g4
      go_wp2
      go_ret
      unfold TurnPost
      exact ⟨⟨_, l', rfl, SX.out, BX.out, LX.out⟩, b0⟩
     ·
      have z1 : (j : Int) < (na : Int) ∧ (j : Int) < (ny : Int) ∧ ¬ (j : Int) < 4 := by omega
      obtain ⟨z1, z2, z3⟩ := z1
      clear g1 g2 g3 g4
      go_wp2
      go_ret
      unfold TurnPost
      exact ⟨⟨_, l', rfl, SX.out, BX.out, LX.out⟩, b0⟩
    ·
     have z1 : (j : Int) < (na : Int) ∧ ¬ (j : Int) < (ny : Int) := by omega
     obtain ⟨z1, z2⟩ := z1
     clear g1 g2 g4
     go_wp2
     go_ret
     unfold TurnPost
     exact ⟨⟨_, l', rfl, SX.out, BX.out, LX.out⟩, b0⟩
   ·
    have z1 : ¬ (j : Int) < (na : Int) := by omega
    clear g1 g4
    go_wp2
    go_ret
    unfold TurnPost
    exact ⟨⟨_, l', rfl, SX.out, BX.out, LX.out⟩, b0⟩
end Go.Proofs.YtegbnadnodlalaaGreatDoor
