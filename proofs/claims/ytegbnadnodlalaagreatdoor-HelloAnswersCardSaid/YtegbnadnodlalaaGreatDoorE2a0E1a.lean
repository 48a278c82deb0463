/- The program's copies joined: slices.Grow of nothing, slices.Concat. Short numbers as plain arithmetic: put, read, wider than need be, cut. A handshake's messages as plain arithmetic: put, read back, cut. -/
import Derived.Test.YtegbnadnodlalaaGreatDoorBg0Us
import Derived.Lib.SliceRun
namespace Go.Proofs.YtegbnadnodlalaaGreatDoor
open Go.RowKit
def zBs (k : Nat) : List Value := vals (List.replicate k 0)
theorem zBs_length (k : Nat) : (zBs k).length = k := by simp [zBs, vals]
theorem zeroCells_zBs (m : Nat) : Builtin.zeroCells #[Value.int .u8 0] m = (zBs m).toArray := by
 apply Array.ext
 · simp [Builtin.zeroCells, zBs, vals]
 ·
  intro j h1 h2
  simp [Builtin.zeroCells, zBs, vals, Nat.mod_one]
/-- A number of noughts behind nothing. -/
theorem nil_noughts (w : World) (ty : TypeId) (k : Nat) (hk : k ≤ 1000000) (hk0 : 0 < k) :
  (Builtin.append_ #[29, 3] ty #[.slice none 0 0, .int .i64 k]).run Tryz.prog w = .ok (.slice (some ⟨w.heap.size, 0, none⟩) k (grownCap w k 0 5))
   (w.drew.alloc (.cells ((zBs k).toArray ++ (zBs (grownCap w k 0 5 - k)).toArray) 5)) := by
 obtain ⟨i, hi, hs, hy, hz⟩ := info_u8
 have wr : IntKind.i64.wrap (k : Int) = (k : Int) := by rw [IntKind.wrap_i64]; omega
 have h48 : ¬ (281474976710656 < (k : Int)) := by omega
 have h0 : ¬ ((k : Int) < 0) := by omega
 have h63' : ¬ (9223372036854775807 < (k : Int)) := by omega
 have zc1 : (Value.int .u8 0).cells = #[Value.int .u8 0] := rfl
 have hcapn : Builtin.nextslicecap k 0 ≤ 281474976710656 := by
  have := growslice_fits (need := k) (old := 0) (bytes := 1) (by omega) (by omega)
  omega
 have h48' : ¬ (281474976710656 < Builtin.nextslicecap k 0) := by omega
 have hne : ¬ k = 0 := by omega
 simp [Builtin.append_, run_underlying Tryz.underlying29, run_underlying Tryz.underlying3, sizeOf, typeInfo, zeroValue, hi, hs, hy, hz, asInt, asIntOf, wr, h48, h0, hne, h63', h48', Question.forced, newRow, grownCap, zc1, zeroCells_zBs, Builtin.firstCells]
set_option maxHeartbeats 4000000 in
set_option maxRecDepth 100000 in
theorem grow_c (k : Nat) (hk : k ≤ 1000000) (W : World) :
  Calls Tryz.prog 63 #[.slice none 0 0, .int .i64 (k : Int)] W fun e w' => ∃ v, e = .returned v ∧ OwL W.heap.size w' v [] ∧ Below W.heap.size W w' := by
 by_cases h0 : k = 0
 ·
  subst h0
  go_enter Tryz.func63, Tryz.ntmps63
  go_wp2
  go_ret
  exact ⟨_, rfl, OwL.nil _ _, Below.refl _ _⟩
 ·
  have h1 := nil_noughts W 29 k hk (by omega)
  have hge := grownCap_ge W k 0 5
  have hcm2 : grownCap W k 0 5 ≤ maxLen := grownCap_le_maxLen W k 0 5 (by simp only [maxLen]; omega)
  have hz : ((zBs k).toArray ++ (zBs (grownCap W k 0 5 - k)).toArray).size = grownCap W k 0 5 := by
   simp only [Array.size_append, List.size_toArray, zBs_length]
   omega
  have b1 := (below_drew (Below.refl W.heap.size W)).alloc (Nat.le_refl _) (.cells ((zBs k).toArray ++ (zBs (grownCap W k 0 5 - k)).toArray) 5)
  have g1 := heap_alloc_new W.drew (.cells ((zBs k).toArray ++ (zBs (grownCap W k 0 5 - k)).toArray) 5)
  generalize ((zBs k).toArray ++ (zBs (grownCap W k 0 5 - k)).toArray) = Z at *
  generalize grownCap W k 0 5 = cap at *
  generalize World.alloc W.drew _ = w1 at *
  have O : OwL W.heap.size w1 (.slice (some ⟨W.heap.size, 0, none⟩) 0 cap) [] := ⟨rfl, .inr ⟨W.heap.size, cap, Z, rfl, Nat.le_refl _, g1, Nat.zero_le _, hcm2, by rw [hz, Nat.mul_one], by simp [vals]⟩⟩
  have B := Lib.hid (And.intro O b1)
  have k0 : (0 : Int) < (k : Int) := by omega
  have k1 : ¬ (k : Int) < 0 := by omega
  have kw : IntKind.i64.wrap (k : Int) = (k : Int) := by rw [IntKind.wrap_i64]; omega
  have c0 : (0 : Int) ≤ (cap : Int) := by omega
  clear O b1 g1 hz hge hcm2 h0
  replace h1 := Lib.hid h1
  go_enter Tryz.func63, Tryz.ntmps63
  go_upto_region 5 with fail
  rename_i aK
  refine wp_region_seq ?_
  refine smv (.slice none 0 0) rfl rfl rfl ?_
  simp only [AP]
  refine smv (.slice none 0 0) rfl rfl rfl ?_
  simp only [AP]
  refine svl (.int .i64 0) (.inl ⟨by rfl, fun w' _ => by go_simp⟩) ?_
  simp only [AP]
  refine svl (.slice none 0 0) (.inl ⟨by rfl, fun w' _ => by go_simp⟩) ?_
  simp only [AP]
  refine smv (.int .i64 (k : Int)) rfl rfl rfl ?_
  simp only [AP]
  refine wpSeq_wp rfl (wp_append_run _ _ _ _ rfl _ _ rfl rfl _ w1 h1.out ?_)
  simp only [AP]
  refine smv (.slice none 0 0) rfl rfl rfl ?_
  simp only [AP]
  refine svl (.int .i64 0) (.inl ⟨by rfl, fun w' _ => by go_simp⟩) ?_
  simp only [AP]
  refine svl (.slice (some ⟨W.heap.size, 0, none⟩) 0 cap) (.inl ⟨by rfl, fun w' _ => by go_simp⟩) ?_
  simp only [AP]
  refine sas (.slice (some ⟨W.heap.size, 0, none⟩) 0 cap) rfl rfl rfl ?_
  simp only [AP]
  refine wpSeq_nil ?_
  refine (by assumption : ∀ (a : Act) (w : World), _ → _) _ _ ?_
  go_wp2
  go_ret
  exact ⟨_, rfl, B.out⟩
set_option maxHeartbeats 8000000 in
set_option maxRecDepth 100000 in
theorem concat_c (ls : List (List Nat)) (p : Option Addr) (n c : Nat) (hn : ls.flatten.length ≤ 100000) (W : World) (hs : SP W (.slice p n c) ls) (hl : ls.length ≤ 100000) :
  Calls Tryz.prog 37 #[.slice p n c] W fun e w' => ∃ v, e = .returned v ∧ OwL W.heap.size w' v ls.flatten ∧ Below W.heap.size W w' := by
 have GC := Lib.hid (grow_c ls.flatten.length (by omega))
 obtain ⟨p', c', e, hc, h3⟩ := hs
 simp only [Value.slice.injEq] at e
 obtain ⟨rfl, rfl, rfl⟩ := e
 have CE := Lib.hid (show ∀ (j : Nat) (hj : j < ls.length), ∃ g o u, p = some ⟨g, o, none⟩ ∧ g < W.heap.size ∧ W.cell? ⟨g, o + j, none⟩ = some u ∧ SB W u ls[j] from fun j hj => by
  rcases h3 with h3 | ⟨g, o, rfl, hg, h6⟩
  ·
   subst h3
   exact absurd hj (Nat.not_lt_zero _)
  ·
   obtain ⟨u, hu, hs⟩ := h6 j hj
   exact ⟨g, o, u, rfl, hg, hu, hs⟩)
 have FL := Lib.hid (fun j (hj : j < ls.length) => show (ls.take (j + 1)).flatten = (ls.take j).flatten ++ ls[j] by
  rw [← List.take_append_getElem hj, List.flatten_append]
  simp)
 have FT := Lib.hid (show ∀ j, (ls.take j).flatten.length ≤ 100000 from fun j => by
  have e : ls.flatten = (ls.take j).flatten ++ (ls.drop j).flatten := by
   conv => lhs; rw [← List.take_append_drop j ls]
   rw [List.flatten_append]
  have := congrArg List.length e
  rw [List.length_append] at this
  omega)
 have FE := Lib.hid (show ls.take ls.length = ls from List.take_length)
 have F0 := Lib.hid (show ls.take 0 = [] from List.take_zero)
 obtain ⟨T, hT⟩ : ∃ T, ls.flatten.length = T := ⟨_, rfl⟩
 rw [hT] at GC
 replace hT := Lib.hid hT
 obtain ⟨N, hN⟩ : ∃ N, ls.length = N := ⟨_, rfl⟩
 have hN' := Lib.hid hN
 rw [hN] at hc hl ⊢
 replace hc := Lib.hid hc
 replace hl := Lib.hid hl
 clear hN h3 hn
 go_enter Tryz.func37, Tryz.ntmps37
 go_upto_region 3 with fail
 go_loopw [3, 5, 11] (fun v3 _ v wr => ∃ j : Nat, j ≤ N ∧ v = .int .i64 (j : Int) ∧ v3 = .int .i64 (((ls.take j).flatten.length : Nat) : Int) ∧ wr = W) (fun _ _ v _ => (N - intOf v).toNat)
 case atStart => exact ⟨0, by omega, rfl, by rw [F0.out]; rfl, rfl⟩
 case round =>
  obtain ⟨j, jm, rfl, rfl, hw⟩ := hrel
  subst wr
  by_cases jj : j = N
  ·
   subst jj
   have es : (ls.take j).flatten.length = T := by rw [← hT.out, ← hN'.out, FE.out]
   rw [es]
   have jm' : ¬ ((j : Nat) : Int) < (j : Int) := by omega
   have t0 : ¬ (T : Int) < 0 := by omega
   clear jm es
   go_wp2_with fail
   refine (GC.out W).mono ?_
   rintro _ w1 ⟨v6, rfl, O6, b6⟩
   have D := Lib.hid (show OwL W.heap.size w1 v6 (ls.take 0).flatten ∧ Below W.heap.size W w1 by rw [F0.out]; exact ⟨O6, b6⟩)
   clear O6 b6 GC
   go_upto_region 11 with fail
   go_loopw [6, 8, 27] (fun v6 _ v wr => ∃ i : Nat, i ≤ j ∧ v = .int .i64 (i : Int) ∧ OwL W.heap.size wr v6 (ls.take i).flatten ∧ Below W.heap.size W wr) (fun _ _ v _ => (j - intOf v).toNat)
   case atStart => exact ⟨0, by omega, rfl, D.out.1, D.out.2⟩
   case round =>
    obtain ⟨i, im, rfl, O, b⟩ := hrel
    clear D
    by_cases ii : i = j
    ·
     subst ii
     have es : (ls.take i).flatten = ls.flatten := by rw [← hN'.out, FE.out]
     rw [es] at O
     clear im es
     go_wp2
     go_ret
     exact ⟨_, rfl, O, b⟩
    ·
     have il : i < j := by omega
     have il' : i < ls.length := by rw [hN'.out]; exact il
     obtain ⟨g, o, u, hp, hg, hu, hs⟩ := CE.out i il'
     subst hp
     have cu : wr.cell? ⟨g, o + i, none⟩ = some u := (b.cell (p := ⟨g, o + i, none⟩) hg).trans hu
     have fl := FL.out i il'
     have ft := FT.out (i + 1)
     rw [fl, List.length_append] at ft
     obtain ⟨v', w', h1, h2, h3⟩ := append_more W.heap.size W wr 29 _ u _ _ O (hs.below b) (by omega) b b.size
     obtain ⟨pu, cu', hu'⟩ := hs.shape
     rw [← fl] at h2
     subst hu'
     have z1 : ((i : Nat) : Int) < (j : Int) := by omega
     have z2 : IntKind.i64.wrap ((i : Int) + 1) = ((i + 1 : Nat) : Int) := by have := hl.out; rw [IntKind.wrap_i64]; omega
     have z0 : (0 : Int) ≤ (i : Int) := by omega
     replace h2 := Lib.hid (And.intro h2 h3)
     replace h1 := Lib.hid h1
     clear fl ft hs hu hg O b h3 jm' t0
     go_upto_region 11 with fail
     rename_i aK
     refine wp_region_seq ?_
     refine svl (.bool true) (.inl ⟨by rfl, fun w' _ => by (go_simp; try omega)⟩) ?_
     simp only [AP]
     refine wpSeq_nil ?_
     refine (by assumption : ∀ (a : Act) (w : World), _ → _) _ _ ?_
     go_upto_region 12 with fail
     rename_i aK
     refine wp_region_seq ?_
     refine svl (.pointer (some ⟨g, o + i, none⟩)) (.inl ⟨by rfl, fun w' _ => by (go_simp)⟩) ?_
     simp only [AP]
     refine wpSeq_yield (S := fun w' => w' = wr) (v := .slice pu ls[i].length cu') (Or.inl ⟨by rfl, fun w' hw' => by (rw [hw']; go_simp)⟩) rfl ?_
     simp only [AP]
     refine sas (.slice pu ls[i].length cu') rfl rfl rfl ?_
     simp only [AP]
     refine wpSeq_nil ?_
     refine (by assumption : ∀ (a : Act) (w : World), _ → _) _ _ ?_
     go_upto_region 13 with fail
     rename_i aK
     refine wp_region_seq ?_
     refine wpSeq_yield (S := fun _ => True) (yieldsIf_move rfl _ rfl _ rfl) trivial ?_
     simp only [AP]
     refine smv (.slice pu ls[i].length cu') rfl rfl rfl ?_
     simp only [AP]
     refine wpSeq_wp rfl (wp_append_run _ _ _ _ rfl _ _ rfl rfl _ w' h1.out ?_)
     simp only [AP]
     refine sas (v') rfl rfl rfl ?_
     simp only [AP]
     refine wpSeq_nil ?_
     refine (by assumption : ∀ (a : Act) (w : World), _ → _) _ _ ?_
     clear cu h1
     go_upto_region 14 with fail
     rename_i aK
     refine wp_region_seq ?_
     refine svl (.int .i64 ((i + 1 : Nat) : Int)) (.inl ⟨by rfl, fun w' _ => by go_simp⟩) ?_
     simp only [AP]
     refine smv (.int .i64 ((i + 1 : Nat) : Int)) rfl rfl rfl ?_
     simp only [AP]
     refine wpSeq_nil ?_
     go_wp2
     exact ⟨⟨i + 1, by omega, rfl, h2.out.1, h2.out.2⟩, by simp only [intOf]; omega⟩
  ·
   have il : j < N := by omega
   have il' : j < ls.length := by rw [hN'.out]; exact il
   obtain ⟨g, o, u, hp, hg, hu, hs⟩ := CE.out j il'
   subst hp
   have fl := FL.out j il'
   have ft := FT.out (j + 1)
   have hfl := congrArg List.length fl
   rw [List.length_append] at hfl
   rw [hfl] at ft
   obtain ⟨pu, cu', hu'⟩ := hs.shape
   subst hu'
   obtain ⟨a, ha⟩ : ∃ a, (ls.take j).flatten.length = a := ⟨_, rfl⟩
   obtain ⟨m, hm⟩ : ∃ m, ls[j].length = m := ⟨_, rfl⟩
   rw [ha, hm] at hfl ft
   rw [hm] at hu
   rw [ha]
   have z1 : ((j : Nat) : Int) < (N : Int) := by omega
   have z2 : IntKind.i64.wrap ((j : Int) + 1) = ((j + 1 : Nat) : Int) := by have := hl.out; rw [IntKind.wrap_i64]; omega
   have z3 : IntKind.i64.wrap ((a : Int) + (m : Int)) = ((a + m : Nat) : Int) := by rw [IntKind.wrap_i64]; omega
   have z4 : ¬ ((a + m : Nat) : Int) < 0 := by omega
   have z0 : (0 : Int) ≤ (j : Int) := by omega
   replace hfl := Lib.hid hfl
   clear fl ft hs hg GC ha hm
   go_upto_region 3 with fail
   rename_i aK
   refine wp_region_seq ?_
   refine svl (.bool true) (.inl ⟨by rfl, fun w' _ => by (go_simp; try omega)⟩) ?_
   simp only [AP]
   refine wpSeq_nil ?_
   refine (by assumption : ∀ (a : Act) (w : World), _ → _) _ _ ?_
   go_upto_region 4 with fail
   rename_i aK
   refine wp_region_seq ?_
   refine svl (.pointer (some ⟨g, o + j, none⟩)) (.inl ⟨by rfl, fun w' _ => by (go_simp)⟩) ?_
   simp only [AP]
   refine wpSeq_yield (S := fun w' => w' = W) (v := .slice pu m cu') (Or.inl ⟨by rfl, fun w' hw' => by (rw [hw']; go_simp)⟩) rfl ?_
   simp only [AP]
   refine sas (.slice pu m cu') rfl rfl rfl ?_
   simp only [AP]
   refine wpSeq_nil ?_
   refine (by assumption : ∀ (a : Act) (w : World), _ → _) _ _ ?_
   go_upto_region 5 with fail
   rename_i aK
   refine wp_region_seq ?_
   refine smv (.int .i64 (a : Int)) rfl rfl rfl ?_
   simp only [AP]
   refine smv (.slice pu m cu') rfl rfl rfl ?_
   simp only [AP]
   refine svl (.int .i64 (m : Int)) (.inl ⟨by rfl, fun w' _ => by go_simp⟩) ?_
   simp only [AP]
   refine svl (.int .i64 ((a + m : Nat) : Int)) (.inl ⟨by rfl, fun w' _ => by (go_simp; try omega)⟩) ?_
   simp only [AP]
   refine sas (.int .i64 ((a + m : Nat) : Int)) rfl rfl rfl ?_
   simp only [AP]
   refine wpSeq_nil ?_
   refine (by assumption : ∀ (a : Act) (w : World), _ → _) _ _ ?_
   go_upto_region 6 with fail
   rename_i aK
   refine wp_region_seq ?_
   refine smv (.int .i64 ((a + m : Nat) : Int)) rfl rfl rfl ?_
   simp only [AP]
   refine svl (.bool false) (.inl ⟨by rfl, fun w' _ => by (go_simp; try omega)⟩) ?_
   simp only [AP]
   refine wpSeq_nil ?_
   refine (by assumption : ∀ (a : Act) (w : World), _ → _) _ _ ?_
   go_upto_region 8 with fail
   rename_i aK
   refine wp_region_seq ?_
   refine svl (.int .i64 ((j + 1 : Nat) : Int)) (.inl ⟨by rfl, fun w' _ => by go_simp⟩) ?_
   simp only [AP]
   refine smv (.int .i64 ((j + 1 : Nat) : Int)) rfl rfl rfl ?_
   simp only [AP]
   refine wpSeq_nil ?_
   go_wp2
   exact ⟨⟨j + 1, by omega, rfl, by rw [hfl.out], trivial⟩, by simp only [intOf]; omega⟩
end Go.Proofs.YtegbnadnodlalaaGreatDoor
namespace Go.Proofs.YtegbnadnodlalaaGreatDoor
open Go
/-- A number's kind: its size is 2 to the power of it. -/
def vtop (n : Nat) : Nat := if n < 64 then 0 else if n < 16384 then 1 else if n < 1073741824 then 2 else 3
/-- A number as so many bytes, the greatest first. -/
def beL (n : Nat) : Nat → List Nat
 | 0 => []
 | k + 1 => n / 256 ^ k % 256 :: beL n k
/-- A number of kind k. -/
def wide (m k : Nat) : List Nat := match beL m (2 ^ k) with
 | [] => []
 | x :: r => (x + 64 * k) :: r
def vput (n : Nat) : List Nat := wide n (vtop n)
def vputs (l : List Nat) : List Nat := (l.map vput).flatten
/-- Bytes as a number. -/
def beN (a : Nat) : List Nat → Nat
 | [] => a
 | x :: r => beN (a * 256 + x) r
/-- A short number, and what is left. -/
def takeV : List Nat → Option (Nat × List Nat)
 | [] => none
 | x :: r => if r.length + 1 < 2 ^ (x / 64) then none else some (beN (x % 64) (r.take (2 ^ (x / 64) - 1)), r.drop (2 ^ (x / 64) - 1))
theorem beL_length (n : Nat) : ∀ k, (beL n k).length = k
 | 0 => rfl
 | k + 1 => by
  show (beL n k).length + 1 = _
  rw [beL_length n k]
theorem beL_bytes (n : Nat) : ∀ k, ∀ x ∈ beL n k, x < 256
 | 0, _, h => by cases h
 | k + 1, x, h => by
  rcases List.mem_cons.1 h with rfl | h
  · exact Nat.mod_lt _ (by decide)
  · exact beL_bytes n k x h
theorem beN_beL (n : Nat) : ∀ k a, beN a (beL n k) = a * 256 ^ k + n % 256 ^ k
 | 0, a => by
  show a = a * 1 + n % 1
  omega
 | k + 1, a => by
  show beN (a * 256 + n / 256 ^ k % 256) (beL n k) = _
  rw [beN_beL n k, Nat.pow_succ, Nat.add_mul, Nat.mod_mul, Nat.mul_assoc a, Nat.mul_comm 256 (256 ^ k), Nat.mul_comm (n / 256 ^ k % 256)]
  omega
theorem wide_length (m k : Nat) : (wide m k).length = 2 ^ k := by
 have h := beL_length m (2 ^ k)
 unfold wide
 cases e : beL m (2 ^ k) with
 | nil =>
  rw [e] at h
  have := Nat.pow_pos (n := k) (show 0 < 2 by decide)
  simp at h
  omega
 | cons x r =>
  rw [e] at h
  exact h
theorem pow_split (k : Nat) : 2 ^ k = (2 ^ k - 1) + 1 := by
 have := Nat.pow_pos (n := k) (show 0 < 2 by decide)
 omega
/-- What is written as a number of kind k is read as it. -/
theorem takeV_wide (m k : Nat) (_hk : k ≤ 3) (hm : m < 2 ^ (8 * 2 ^ k - 2)) (r : List Nat) : takeV (wide m k ++ r) = some (m, r) := by
 have e : beL m (2 ^ k) = m / 256 ^ (2 ^ k - 1) % 256 :: beL m (2 ^ k - 1) := by
  conv => lhs; rw [pow_split k]
  rfl
 have hx : m / 256 ^ (2 ^ k - 1) < 64 := by
  rw [Nat.div_lt_iff_lt_mul (Nat.pow_pos (by decide)), show 64 * 256 ^ (2 ^ k - 1) = 2 ^ (8 * 2 ^ k - 2) by
   rw [show (256 : Nat) = 2 ^ 8 from rfl, ← Nat.pow_mul, show (64 : Nat) = 2 ^ 6 from rfl, ← Nat.pow_add]
   congr 1
   have := pow_split k
   omega]
  exact hm
 have lr := beL_length m (2 ^ k - 1)
 have ew : wide m k = (m / 256 ^ (2 ^ k - 1) + 64 * k) :: beL m (2 ^ k - 1) := by
  unfold wide
  rw [e]
  show (m / 256 ^ (2 ^ k - 1) % 256 + 64 * k) :: _ = _
  rw [Nat.mod_eq_of_lt (by omega)]
 have hN := beN_beL m (2 ^ k - 1) (m / 256 ^ (2 ^ k - 1))
 have hdm : m / 256 ^ (2 ^ k - 1) * 256 ^ (2 ^ k - 1) + m % 256 ^ (2 ^ k - 1) = m := by
  rw [Nat.mul_comm]
  exact Nat.div_add_mod _ _
 rw [hdm] at hN
 rw [ew]
 generalize m / 256 ^ (2 ^ k - 1) = x at *
 generalize beL m (2 ^ k - 1) = t at *
 show (if (t ++ r).length + 1 < 2 ^ ((x + 64 * k) / 64) then none else some (beN ((x + 64 * k) % 64) ((t ++ r).take (2 ^ ((x + 64 * k) / 64) - 1)), (t ++ r).drop (2 ^ ((x + 64 * k) / 64) - 1))) = _
 have e1 : (x + 64 * k) / 64 = k := by omega
 have e2 : (x + 64 * k) % 64 = x := by omega
 rw [e1, e2, if_neg (by rw [List.length_append, lr]; have := pow_split k; omega), List.take_left' lr, List.drop_left' lr, hN]
theorem vtop_le (n : Nat) : vtop n ≤ 3 := by
 unfold vtop
 split
 · decide
 ·
  split
  · decide
  · split <;> decide
theorem vtop_fits (n : Nat) (hn : n < 4611686018427387904) : n < 2 ^ (8 * 2 ^ vtop n - 2) := by
 unfold vtop
 split
 · assumption
 ·
  split
  · assumption
  ·
   split
   · assumption
   · exact hn
theorem vput_length (n : Nat) : (vput n).length = 2 ^ vtop n := wide_length _ _
theorem takeV_vput (n : Nat) (hn : n < 4611686018427387904) (r : List Nat) : takeV (vput n ++ r) = some (n, r) := takeV_wide n _ (vtop_le n) (vtop_fits n hn) r
theorem vputs_cons (n : Nat) (l : List Nat) : vputs (n :: l) = vput n ++ vputs l := rfl
theorem vputs_append (a b : List Nat) : vputs (a ++ b) = vputs a ++ vputs b := by
 unfold vputs
 rw [List.map_append, List.flatten_append]
theorem vputs_one (n : Nat) : vputs [n] = vput n := by
 show vput n ++ [] = _
 rw [List.append_nil]
theorem wide_bytes (m k : Nat) (hk : k ≤ 3) (hm : m < 2 ^ (8 * 2 ^ k - 2)) : ∀ x ∈ wide m k, x < 256 := by
 have e : beL m (2 ^ k) = m / 256 ^ (2 ^ k - 1) % 256 :: beL m (2 ^ k - 1) := by
  conv => lhs; rw [pow_split k]
  rfl
 have hx : m / 256 ^ (2 ^ k - 1) < 64 := by
  rw [Nat.div_lt_iff_lt_mul (Nat.pow_pos (by decide)), show 64 * 256 ^ (2 ^ k - 1) = 2 ^ (8 * 2 ^ k - 2) by
   rw [show (256 : Nat) = 2 ^ 8 from rfl, ← Nat.pow_mul, show (64 : Nat) = 2 ^ 6 from rfl, ← Nat.pow_add]
   congr 1
   have := pow_split k
   omega]
  exact hm
 intro x h
 unfold wide at h
 rw [e] at h
 rcases List.mem_cons.1 h with rfl | h
 ·
  generalize m / 256 ^ (2 ^ k - 1) = d at *
  omega
 · exact beL_bytes _ _ x h
theorem vput_bytes (n : Nat) (hn : n < 4611686018427387904) : ∀ x ∈ vput n, x < 256 := wide_bytes n _ (vtop_le n) (vtop_fits n hn)
/-- A reader's next number: it, what is left, the fault. -/
def numS (l : List Nat) (c : Nat) : Nat × List Nat × Nat := if c ≠ 0 then (0, l, c) else match takeV l with
 | none => (0, l, 3)
 | some (n, r) => (n, r, 0)
theorem numS_put (n : Nat) (hn : n < 4611686018427387904) (r : List Nat) : numS (vput n ++ r) 0 = (n, r, 0) := by
 unfold numS
 rw [if_neg (by decide), takeV_vput n hn]
theorem numS_fault (l : List Nat) (c : Nat) (hc : c ≠ 0) : numS l c = (0, l, c) := if_pos hc
theorem numS_none (l : List Nat) (h : takeV l = none) : numS l 0 = (0, l, 3) := by
 unfold numS
 rw [if_neg (by decide), h]
end Go.Proofs.YtegbnadnodlalaaGreatDoor
namespace Go.Proofs.YtegbnadnodlalaaGreatDoor
open Go
def failS (c d : Nat) : Nat := if c = 0 then d else c
def bytesS (n : Nat) (l : List Nat) (c : Nat) : List Nat × List Nat × Nat := if c ≠ 0 then ([], l, c) else if l.length < n then ([], l, 3) else (l.take n, l.drop n, 0)
def byteS (l : List Nat) (c : Nat) : Nat × List Nat × Nat := ((bytesS 1 l c).1.getD 0 0, (bytesS 1 l c).2.1, (bytesS 1 l c).2.2)
def endS (l : List Nat) (c : Nat) : Nat := if l = [] then c else failS c 4
/-- Four short numbers. -/
def parS (l : List Nat) (c : Nat) : (Nat × Nat × Nat × Nat) × List Nat × Nat :=
 ((numS l c).1, (numS (numS l c).2.1 (numS l c).2.2).1, (numS (numS (numS l c).2.1 (numS l c).2.2).2.1 (numS (numS l c).2.1 (numS l c).2.2).2.2).1, (numS (numS (numS (numS l c).2.1 (numS l c).2.2).2.1 (numS (numS l c).2.1 (numS l c).2.2).2.2).2.1 (numS (numS (numS l c).2.1 (numS l c).2.2).2.1 (numS (numS l c).2.1 (numS l c).2.2).2.2).2.2).1) |> fun v =>
 (v, (numS (numS (numS (numS l c).2.1 (numS l c).2.2).2.1 (numS (numS l c).2.1 (numS l c).2.2).2.2).2.1 (numS (numS (numS l c).2.1 (numS l c).2.2).2.1 (numS (numS l c).2.1 (numS l c).2.2).2.2).2.2).2)
theorem bytesS_put (a r : List Nat) (n : Nat) (h : a.length = n) : bytesS n (a ++ r) 0 = (a, r, 0) := by
 unfold bytesS
 rw [if_neg (by decide), if_neg (by rw [List.length_append]; omega), List.take_left' h, List.drop_left' h]
theorem byteS_put (x : Nat) (r : List Nat) : byteS (x :: r) 0 = (x, r, 0) := by
 have := bytesS_put [x] r 1 rfl
 unfold byteS
 rw [show x :: r = [x] ++ r from rfl, this]
 rfl
/-- Parameters put: the error's number, the bytes. -/
def bigP (a b c d : Nat) : Prop := 4611686018427387904 ≤ a ∨ 4611686018427387904 ≤ b ∨ 4611686018427387904 ≤ c ∨ 4611686018427387904 ≤ d
instance (a b c d : Nat) : Decidable (bigP a b c d) := by unfold bigP; infer_instance
def parB (a b c d : Nat) : List Nat := vput a ++ (vput b ++ (vput c ++ vput d))
def parF (a b c d : Nat) : Nat × List Nat := if bigP a b c d then (2, []) else (0, parB a b c d)
theorem parS_put (a b c d : Nat) (h : ¬ bigP a b c d) (r : List Nat) : parS (parB a b c d ++ r) 0 = ((a, b, c, d), r, 0) := by
 unfold bigP at h
 unfold parB parS
 simp only [List.append_assoc, numS_put a (by omega), numS_put b (by omega), numS_put c (by omega), numS_put d (by omega)]
/-- A message: the error's number, the bytes. -/
def msgB (k : Nat) (b : List Nat) : List Nat := k :: (b.length / 65536) :: (b.length / 256 % 256) :: (b.length % 256) :: b
def msgF (k : Nat) (b : List Nat) : Nat × List Nat := if 4096 < b.length then (8, []) else (0, msgB k b)
theorem msgB_length (k : Nat) (b : List Nat) : (msgB k b).length = 4 + b.length := by simp [msgB]; omega
/-- The client's first message. -/
structure He where
 rnd : List Nat
 sha : List Nat
 par : Nat × Nat × Nat × Nat
 psk : List Nat
 bnd : List Nat
def z32 : List Nat := List.replicate 32 0
def He.none : He := ⟨z32, z32, (0, 0, 0, 0), [], z32⟩
/-- The server's first message. -/
def ansB (r s : List Nat) (p : Bool) : List Nat := r ++ (s ++ [if p then 1 else 0])
def readA (l : List Nat) : Nat × List Nat × List Nat × Bool :=
 let r := bytesS 32 l 0
 let s := bytesS 32 r.2.1 r.2.2
 let n := byteS s.2.1 s.2.2
 let c := if 1 < n.1 then failS n.2.2 5 else n.2.2
 if endS n.2.1 c ≠ 0 then (endS n.2.1 c, z32, z32, false) else (0, r.1, s.1, n.1 == 1)
theorem readA_back (r s : List Nat) (p : Bool) (h1 : r.length = 32) (h2 : s.length = 32) : readA (ansB r s p) = (0, r, s, p) := by
 unfold readA ansB
 rw [bytesS_put _ _ _ h1]
 dsimp only
 rw [bytesS_put _ _ _ h2]
 dsimp only
 rw [byteS_put]
 cases p <;> rfl
/-- Parameters of bytes. -/
def readP (l : List Nat) : Nat × Nat × Nat × Nat × Nat :=
 let p := parS l 0
 if endS p.2.1 p.2.2 ≠ 0 then (endS p.2.1 p.2.2, 0, 0, 0, 0) else (0, p.1)
theorem readP_back (a b c d : Nat) (h : ¬ bigP a b c d) : readP (parB a b c d) = (0, a, b, c, d) := by
 have e := parS_put a b c d h []
 rw [List.append_nil] at e
 unfold readP
 rw [e]
 rfl
def readC (l : List Nat) : Nat × List Nat × List Nat × List Nat :=
 let n := byteS l 0
 let m := bytesS n.1 n.2.1 (if n.1 < 1 ∨ 32 < n.1 then failS n.2.2 2 else n.2.2)
 let k := bytesS 32 m.2.1 m.2.2
 let s := bytesS 64 k.2.1 k.2.2
 if endS s.2.1 s.2.2 ≠ 0 then (endS s.2.1 s.2.2, [], z32, List.replicate 64 0) else (0, m.1, k.1, s.1)
end Go.Proofs.YtegbnadnodlalaaGreatDoor
