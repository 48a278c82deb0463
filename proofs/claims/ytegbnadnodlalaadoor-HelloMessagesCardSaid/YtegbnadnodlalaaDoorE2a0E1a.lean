/- The program's copies joined: slices.Grow of nothing, slices.Concat. A handshake's messages as plain arithmetic: put, read back, cut. -/
import Derived.Test.YtegbnadnodlalaaDoorBg0Us
import Derived.Lib.SliceRun
namespace Go.Proofs.YtegbnadnodlalaaDoor
open Go.RowKit
def zBs (k : Nat) : List Value := vals (List.replicate k 0)
theorem zBs_length (k : Nat) : (zBs k).length = k := by simp [zBs, vals]
theorem zeroCells_zBs (m : Nat) : Builtin.zeroCells #[Value.int .u8 0] m = (zBs m).toArray := by
  apply Array.ext
  · simp [Builtin.zeroCells, zBs, vals]
  · intro j h1 h2
    simp [Builtin.zeroCells, zBs, vals, Nat.mod_one]
/-- A number of noughts behind nothing. -/
theorem nil_noughts (w : World) (ty : TypeId) (k : Nat) (hk : k ≤ 1000000) (hk0 : 0 < k) :
    (Builtin.append_ #[22, 3] ty #[.slice none 0 0, .int .i64 k]).run Tryd.prog w = .ok (.slice (some ⟨w.heap.size, 0, none⟩) k (grownCap w k 0 5))
      (w.drew.alloc (.cells ((zBs k).toArray ++ (zBs (grownCap w k 0 5 - k)).toArray) 5)) := by
  obtain ⟨i, hi, hs, hy, hz⟩ := info_u8
  have wr : IntKind.i64.wrap (k : Int) = (k : Int) := by rw [IntKind.wrap_i64]; omega
  have h48 : ¬ (281474976710656 < (k : Int)) := by omega
  have h0 : ¬ ((k : Int) < 0) := by omega
  have h63' : ¬ (9223372036854775807 < (k : Int)) := by omega
  have zc1 : (Value.int .u8 0).cells = #[Value.int .u8 0] := rfl
  have hcapn : Builtin.nextslicecap k 0 ≤ 281474976710656 := by
    have := growslice_fits (need := k) (old := 0) (bytes := 1) (by omega) (by omega)
    omega
  have h48' : ¬ (281474976710656 < Builtin.nextslicecap k 0) := by omega
  have hne : ¬ k = 0 := by omega
  simp [Builtin.append_, run_underlying Tryd.underlying22, run_underlying Tryd.underlying3, sizeOf, typeInfo, zeroValue, hi, hs, hy, hz, asInt, asIntOf, wr, h48, h0, hne, h63', h48', Question.forced, newRow, grownCap, zc1, zeroCells_zBs, Builtin.firstCells]
set_option maxHeartbeats 4000000 in
set_option maxRecDepth 100000 in
theorem grow_c (k : Nat) (hk : k ≤ 1000000) (W : World) :
    Calls Tryd.prog 59 #[.slice none 0 0, .int .i64 (k : Int)] W fun e w' => ∃ v, e = .returned v ∧ OwL W.heap.size w' v [] ∧ Below W.heap.size W w' := by
  by_cases h0 : k = 0
  · subst h0
    go_enter Tryd.func59, Tryd.ntmps59
    go_wp2
    go_ret
    exact ⟨_, rfl, OwL.nil _ _, Below.refl _ _⟩
  · have h1 := nil_noughts W 22 k hk (by omega)
    have hge := grownCap_ge W k 0 5
    have hcm2 : grownCap W k 0 5 ≤ maxLen := grownCap_le_maxLen W k 0 5 (by simp only [maxLen]; omega)
    have hz : ((zBs k).toArray ++ (zBs (grownCap W k 0 5 - k)).toArray).size = grownCap W k 0 5 := by
      simp only [Array.size_append, List.size_toArray, zBs_length]
      omega
    have b1 := (below_drew (Below.refl W.heap.size W)).alloc (Nat.le_refl _) (.cells ((zBs k).toArray ++ (zBs (grownCap W k 0 5 - k)).toArray) 5)
    have g1 := heap_alloc_new W.drew (.cells ((zBs k).toArray ++ (zBs (grownCap W k 0 5 - k)).toArray) 5)
    generalize ((zBs k).toArray ++ (zBs (grownCap W k 0 5 - k)).toArray) = Z at *
    generalize grownCap W k 0 5 = cap at *
    generalize World.alloc W.drew _ = w1 at *
    have O : OwL W.heap.size w1 (.slice (some ⟨W.heap.size, 0, none⟩) 0 cap) [] := ⟨rfl, .inr ⟨W.heap.size, cap, Z, rfl, Nat.le_refl _, g1, Nat.zero_le _, hcm2, by rw [hz, Nat.mul_one], by simp [vals]⟩⟩
    have B := Lib.hid (And.intro O b1)
    have k0 : (0 : Int) < (k : Int) := by omega
    have k1 : ¬ (k : Int) < 0 := by omega
    have kw : IntKind.i64.wrap (k : Int) = (k : Int) := by rw [IntKind.wrap_i64]; omega
    have c0 : (0 : Int) ≤ (cap : Int) := by omega
    clear O b1 g1 hz hge hcm2 h0
    replace h1 := Lib.hid h1
    go_enter Tryd.func59, Tryd.ntmps59
    go_upto_region 5 with fail
    rename_i aK
    refine wp_region_seq ?_
    refine wpSeq_yield (S := fun _ => True) (yieldsIf_move rfl _ rfl (.slice none 0 0) rfl) trivial ?_
    simp only [AP]
    refine wpSeq_yield (S := fun _ => True) (yieldsIf_move rfl _ rfl (.slice none 0 0) rfl) trivial ?_
    simp only [AP]
    refine wpSeq_yield (S := fun _ => True) (v := .int .i64 0) (Or.inl ⟨by rfl, fun w' hw' => by go_simp⟩) trivial ?_
    simp only [AP]
    refine wpSeq_yield (S := fun _ => True) (v := .slice none 0 0) (Or.inl ⟨by rfl, fun w' hw' => by go_simp⟩) trivial ?_
    simp only [AP]
    refine wpSeq_yield (S := fun _ => True) (yieldsIf_move rfl _ rfl (.int .i64 (k : Int)) rfl) trivial ?_
    simp only [AP]
    refine wpSeq_wp rfl (wp_append_run _ _ _ _ rfl _ _ rfl rfl _ w1 h1.out ?_)
    simp only [AP]
    refine wpSeq_yield (S := fun _ => True) (yieldsIf_move rfl _ rfl (.slice none 0 0) rfl) trivial ?_
    simp only [AP]
    refine wpSeq_yield (S := fun _ => True) (v := .int .i64 0) (Or.inl ⟨by rfl, fun w' hw' => by go_simp⟩) trivial ?_
    simp only [AP]
    refine wpSeq_yield (S := fun _ => True) (v := .slice (some ⟨W.heap.size, 0, none⟩) 0 cap) (Or.inl ⟨by rfl, fun w' hw' => by go_simp⟩) trivial ?_
    simp only [AP]
    refine wpSeq_yield (S := fun _ => True) (yieldsIf_assign rfl _ rfl (.slice (some ⟨W.heap.size, 0, none⟩) 0 cap) rfl) trivial ?_
    simp only [AP]
    refine wpSeq_nil ?_
    refine (by assumption : ∀ (a : Act) (w : World), _ → _) _ _ ?_
    go_wp2
    go_ret
    exact ⟨_, rfl, B.out⟩
set_option maxHeartbeats 8000000 in
set_option maxRecDepth 100000 in
theorem concat_c (ls : List (List Nat)) (p : Option Addr) (n c : Nat) (hn : ls.flatten.length ≤ 100000) (W : World) (hs : SP W (.slice p n c) ls) (hl : ls.length ≤ 100000) :
    Calls Tryd.prog 39 #[.slice p n c] W fun e w' => ∃ v, e = .returned v ∧ OwL W.heap.size w' v ls.flatten ∧ Below W.heap.size W w' := by
  have GC := Lib.hid (grow_c ls.flatten.length (by omega))
  obtain ⟨p', c', e, hc, h3⟩ := hs
  simp only [Value.slice.injEq] at e
  obtain ⟨rfl, rfl, rfl⟩ := e
  have CE := Lib.hid (show ∀ (j : Nat) (hj : j < ls.length), ∃ g o u, p = some ⟨g, o, none⟩ ∧ g < W.heap.size ∧ W.cell? ⟨g, o + j, none⟩ = some u ∧ SB W u ls[j] from fun j hj => by
    rcases h3 with h3 | ⟨g, o, rfl, hg, h6⟩
    · subst h3
      exact absurd hj (Nat.not_lt_zero _)
    · obtain ⟨u, hu, hs⟩ := h6 j hj
      exact ⟨g, o, u, rfl, hg, hu, hs⟩)
  have FL := Lib.hid (fun j (hj : j < ls.length) => show (ls.take (j + 1)).flatten = (ls.take j).flatten ++ ls[j] by
    rw [← List.take_append_getElem hj, List.flatten_append]
    simp)
  have FT := Lib.hid (show ∀ j, (ls.take j).flatten.length ≤ 100000 from fun j => by
    have e : ls.flatten = (ls.take j).flatten ++ (ls.drop j).flatten := by
      conv => lhs; rw [← List.take_append_drop j ls]
      rw [List.flatten_append]
    have := congrArg List.length e
    rw [List.length_append] at this
    omega)
  have FE := Lib.hid (show ls.take ls.length = ls from List.take_length)
  have F0 := Lib.hid (show ls.take 0 = [] from List.take_zero)
  obtain ⟨T, hT⟩ : ∃ T, ls.flatten.length = T := ⟨_, rfl⟩
  rw [hT] at GC
  replace hT := Lib.hid hT
  obtain ⟨N, hN⟩ : ∃ N, ls.length = N := ⟨_, rfl⟩
  have hN' := Lib.hid hN
  rw [hN] at hc hl ⊢
  replace hc := Lib.hid hc
  replace hl := Lib.hid hl
  clear hN h3 hn
  go_enter Tryd.func39, Tryd.ntmps39
  go_upto_region 3 with fail
  go_loopw [3, 5, 11] (fun v3 _ v wr => ∃ j : Nat, j ≤ N ∧ v = .int .i64 (j : Int) ∧ v3 = .int .i64 (((ls.take j).flatten.length : Nat) : Int) ∧ wr = W) (fun _ _ v _ => (N - intOf v).toNat)
  case atStart => exact ⟨0, by omega, rfl, by rw [F0.out]; rfl, rfl⟩
  case round =>
    obtain ⟨j, jm, rfl, rfl, hw⟩ := hrel
    subst wr
    by_cases jj : j = N
    · subst jj
      have es : (ls.take j).flatten.length = T := by rw [← hT.out, ← hN'.out, FE.out]
      rw [es]
      have jm' : ¬ ((j : Nat) : Int) < (j : Int) := by omega
      have t0 : ¬ (T : Int) < 0 := by omega
      clear jm es
      go_wp2_with fail
      refine (GC.out W).mono ?_
      rintro _ w1 ⟨v6, rfl, O6, b6⟩
      have D := Lib.hid (show OwL W.heap.size w1 v6 (ls.take 0).flatten ∧ Below W.heap.size W w1 by rw [F0.out]; exact ⟨O6, b6⟩)
      clear O6 b6 GC
      go_upto_region 11 with fail
      go_loopw [6, 8, 27] (fun v6 _ v wr => ∃ i : Nat, i ≤ j ∧ v = .int .i64 (i : Int) ∧ OwL W.heap.size wr v6 (ls.take i).flatten ∧ Below W.heap.size W wr) (fun _ _ v _ => (j - intOf v).toNat)
      case atStart => exact ⟨0, by omega, rfl, D.out.1, D.out.2⟩
      case round =>
        obtain ⟨i, im, rfl, O, b⟩ := hrel
        clear D
        by_cases ii : i = j
        · subst ii
          have es : (ls.take i).flatten = ls.flatten := by rw [← hN'.out, FE.out]
          rw [es] at O
          clear im es
          go_wp2
          go_ret
          exact ⟨_, rfl, O, b⟩
        · have il : i < j := by omega
          have il' : i < ls.length := by rw [hN'.out]; exact il
          obtain ⟨g, o, u, hp, hg, hu, hs⟩ := CE.out i il'
          subst hp
          have cu : wr.cell? ⟨g, o + i, none⟩ = some u := (b.cell (p := ⟨g, o + i, none⟩) hg).trans hu
          have fl := FL.out i il'
          have ft := FT.out (i + 1)
          rw [fl, List.length_append] at ft
          obtain ⟨v', w', h1, h2, h3⟩ := append_more W.heap.size W wr 22 _ u _ _ O (hs.below b) (by omega) b b.size
          obtain ⟨pu, cu', hu'⟩ := hs.shape
          rw [← fl] at h2
          subst hu'
          have z1 : ((i : Nat) : Int) < (j : Int) := by omega
          have z2 : IntKind.i64.wrap ((i : Int) + 1) = ((i + 1 : Nat) : Int) := by have := hl.out; rw [IntKind.wrap_i64]; omega
          have z0 : (0 : Int) ≤ (i : Int) := by omega
          replace h2 := Lib.hid (And.intro h2 h3)
          replace h1 := Lib.hid h1
          clear fl ft hs hu hg O b h3 jm' t0
          go_upto_region 11 with fail
          rename_i aK
          refine wp_region_seq ?_
          refine wpSeq_yield (S := fun _ => True) (v := .bool true) (Or.inl ⟨by rfl, fun w' hw' => by (go_simp; try omega)⟩) trivial ?_
          simp only [AP]
          refine wpSeq_nil ?_
          refine (by assumption : ∀ (a : Act) (w : World), _ → _) _ _ ?_
          go_upto_region 12 with fail
          rename_i aK
          refine wp_region_seq ?_
          refine wpSeq_yield (S := fun _ => True) (v := .pointer (some ⟨g, o + i, none⟩)) (Or.inl ⟨by rfl, fun w' hw' => by (go_simp)⟩) trivial ?_
          simp only [AP]
          refine wpSeq_yield (S := fun w' => w' = wr) (v := .slice pu ls[i].length cu') (Or.inl ⟨by rfl, fun w' hw' => by (rw [hw']; go_simp)⟩) rfl ?_
          simp only [AP]
          refine wpSeq_yield (S := fun _ => True) (yieldsIf_assign rfl _ rfl (.slice pu ls[i].length cu') rfl) trivial ?_
          simp only [AP]
          refine wpSeq_nil ?_
          refine (by assumption : ∀ (a : Act) (w : World), _ → _) _ _ ?_
          go_upto_region 13 with fail
          rename_i aK
          refine wp_region_seq ?_
          refine wpSeq_yield (S := fun _ => True) (yieldsIf_move rfl _ rfl _ rfl) trivial ?_
          simp only [AP]
          refine wpSeq_yield (S := fun _ => True) (yieldsIf_move rfl _ rfl (.slice pu ls[i].length cu') rfl) trivial ?_
          simp only [AP]
          refine wpSeq_wp rfl (wp_append_run _ _ _ _ rfl _ _ rfl rfl _ w' h1.out ?_)
          simp only [AP]
          refine wpSeq_yield (S := fun _ => True) (yieldsIf_assign rfl _ rfl (v') rfl) trivial ?_
          simp only [AP]
          refine wpSeq_nil ?_
          refine (by assumption : ∀ (a : Act) (w : World), _ → _) _ _ ?_
          clear cu h1
          go_upto_region 14 with fail
          rename_i aK
          refine wp_region_seq ?_
          refine wpSeq_yield (S := fun _ => True) (v := .int .i64 ((i + 1 : Nat) : Int)) (Or.inl ⟨by rfl, fun w' hw' => by go_simp⟩) trivial ?_
          simp only [AP]
          refine wpSeq_yield (S := fun _ => True) (yieldsIf_move rfl _ rfl (.int .i64 ((i + 1 : Nat) : Int)) rfl) trivial ?_
          simp only [AP]
          refine wpSeq_nil ?_
          go_wp2
          exact ⟨⟨i + 1, by omega, rfl, h2.out.1, h2.out.2⟩, by simp only [intOf]; omega⟩
    · have il : j < N := by omega
      have il' : j < ls.length := by rw [hN'.out]; exact il
      obtain ⟨g, o, u, hp, hg, hu, hs⟩ := CE.out j il'
      subst hp
      have fl := FL.out j il'
      have ft := FT.out (j + 1)
      have hfl := congrArg List.length fl
      rw [List.length_append] at hfl
      rw [hfl] at ft
      obtain ⟨pu, cu', hu'⟩ := hs.shape
      subst hu'
      obtain ⟨a, ha⟩ : ∃ a, (ls.take j).flatten.length = a := ⟨_, rfl⟩
      obtain ⟨m, hm⟩ : ∃ m, ls[j].length = m := ⟨_, rfl⟩
      rw [ha, hm] at hfl ft
      rw [hm] at hu
      rw [ha]
      have z1 : ((j : Nat) : Int) < (N : Int) := by omega
      have z2 : IntKind.i64.wrap ((j : Int) + 1) = ((j + 1 : Nat) : Int) := by have := hl.out; rw [IntKind.wrap_i64]; omega
      have z3 : IntKind.i64.wrap ((a : Int) + (m : Int)) = ((a + m : Nat) : Int) := by rw [IntKind.wrap_i64]; omega
      have z4 : ¬ ((a + m : Nat) : Int) < 0 := by omega
      have z0 : (0 : Int) ≤ (j : Int) := by omega
      replace hfl := Lib.hid hfl
      clear fl ft hs hg GC ha hm
      go_upto_region 3 with fail
      rename_i aK
      refine wp_region_seq ?_
      refine wpSeq_yield (S := fun _ => True) (v := .bool true) (Or.inl ⟨by rfl, fun w' hw' => by (go_simp; try omega)⟩) trivial ?_
      simp only [AP]
      refine wpSeq_nil ?_
      refine (by assumption : ∀ (a : Act) (w : World), _ → _) _ _ ?_
      go_upto_region 4 with fail
      rename_i aK
      refine wp_region_seq ?_
      refine wpSeq_yield (S := fun _ => True) (v := .pointer (some ⟨g, o + j, none⟩)) (Or.inl ⟨by rfl, fun w' hw' => by (go_simp)⟩) trivial ?_
      simp only [AP]
      refine wpSeq_yield (S := fun w' => w' = W) (v := .slice pu m cu') (Or.inl ⟨by rfl, fun w' hw' => by (rw [hw']; go_simp)⟩) rfl ?_
      simp only [AP]
      refine wpSeq_yield (S := fun _ => True) (yieldsIf_assign rfl _ rfl (.slice pu m cu') rfl) trivial ?_
      simp only [AP]
      refine wpSeq_nil ?_
      refine (by assumption : ∀ (a : Act) (w : World), _ → _) _ _ ?_
      go_upto_region 5 with fail
      rename_i aK
      refine wp_region_seq ?_
      refine wpSeq_yield (S := fun _ => True) (yieldsIf_move rfl _ rfl (.int .i64 (a : Int)) rfl) trivial ?_
      simp only [AP]
      refine wpSeq_yield (S := fun _ => True) (yieldsIf_move rfl _ rfl (.slice pu m cu') rfl) trivial ?_
      simp only [AP]
      refine wpSeq_yield (S := fun _ => True) (v := .int .i64 (m : Int)) (Or.inl ⟨by rfl, fun w' hw' => by go_simp⟩) trivial ?_
      simp only [AP]
      refine wpSeq_yield (S := fun _ => True) (v := .int .i64 ((a + m : Nat) : Int)) (Or.inl ⟨by rfl, fun w' hw' => by (go_simp; try omega)⟩) trivial ?_
      simp only [AP]
      refine wpSeq_yield (S := fun _ => True) (yieldsIf_assign rfl _ rfl (.int .i64 ((a + m : Nat) : Int)) rfl) trivial ?_
      simp only [AP]
      refine wpSeq_nil ?_
      refine (by assumption : ∀ (a : Act) (w : World), _ → _) _ _ ?_
      go_upto_region 6 with fail
      rename_i aK
      refine wp_region_seq ?_
      refine wpSeq_yield (S := fun _ => True) (yieldsIf_move rfl _ rfl (.int .i64 ((a + m : Nat) : Int)) rfl) trivial ?_
      simp only [AP]
      refine wpSeq_yield (S := fun _ => True) (v := .bool false) (Or.inl ⟨by rfl, fun w' hw' => by (go_simp; try omega)⟩) trivial ?_
      simp only [AP]
      refine wpSeq_nil ?_
      refine (by assumption : ∀ (a : Act) (w : World), _ → _) _ _ ?_
      go_upto_region 8 with fail
      rename_i aK
      refine wp_region_seq ?_
      refine wpSeq_yield (S := fun _ => True) (v := .int .i64 ((j + 1 : Nat) : Int)) (Or.inl ⟨by rfl, fun w' hw' => by go_simp⟩) trivial ?_
      simp only [AP]
      refine wpSeq_yield (S := fun _ => True) (yieldsIf_move rfl _ rfl (.int .i64 ((j + 1 : Nat) : Int)) rfl) trivial ?_
      simp only [AP]
      refine wpSeq_nil ?_
      go_wp2
      exact ⟨⟨j + 1, by omega, rfl, by rw [hfl.out], trivial⟩, by simp only [intOf]; omega⟩
end Go.Proofs.YtegbnadnodlalaaDoor
namespace Go.Proofs.YtegbnadnodlalaaDoor
open Go
/-- Parameters put: the error's number, the bytes. -/
def bigP (a b c d : Nat) : Prop := 4611686018427387904 ≤ a ∨ 4611686018427387904 ≤ b ∨ 4611686018427387904 ≤ c ∨ 4611686018427387904 ≤ d
instance (a b c d : Nat) : Decidable (bigP a b c d) := by unfold bigP; infer_instance
/-- A message: the error's number, the bytes. -/
def msgB (k : Nat) (b : List Nat) : List Nat := k :: (b.length / 65536) :: (b.length / 256 % 256) :: (b.length % 256) :: b
def msgF (k : Nat) (b : List Nat) : Nat × List Nat := if 4096 < b.length then (8, []) else (0, msgB k b)
/-- The message with which bytes begin: the error's number, its kind, its bytes, how long it is. -/
def takeM : List Nat → Nat × Nat × List Nat × Nat
  | k :: x :: y :: z :: r => if 4096 < x * 65536 + y * 256 + z then (8, 0, [], 0) else if r.length < x * 65536 + y * 256 + z then (0, 0, [], 0) else (0, k, r.take (x * 65536 + y * 256 + z), 4 + (x * 65536 + y * 256 + z))
  | _ => (0, 0, [], 0)
theorem takeM_cons (k x y z : Nat) (r : List Nat) : takeM (k :: x :: y :: z :: r) = if 4096 < x * 65536 + y * 256 + z then (8, 0, [], 0) else if r.length < x * 65536 + y * 256 + z then (0, 0, [], 0) else (0, k, r.take (x * 65536 + y * 256 + z), 4 + (x * 65536 + y * 256 + z)) := rfl
theorem msgB_length (k : Nat) (b : List Nat) : (msgB k b).length = 4 + b.length := by simp [msgB]; omega
theorem take_msg (k : Nat) (b r : List Nat) (h : b.length ≤ 4096) : takeM (msgB k b ++ r) = (0, k, b, 4 + b.length) := by
  show takeM (k :: (b.length / 65536) :: (b.length / 256 % 256) :: (b.length % 256) :: (b ++ r)) = _
  have e : b.length / 65536 * 65536 + b.length / 256 % 256 * 256 + b.length % 256 = b.length := by omega
  rw [takeM_cons, e, if_neg (by omega), if_neg (by rw [List.length_append]; omega), List.take_left]
theorem take_cut (k : Nat) (b : List Nat) (h : b.length ≤ 4096) (n : Nat) (hn : n < 4 + b.length) : takeM ((msgB k b).take n) = (0, 0, [], 0) := by
  have e : b.length / 65536 * 65536 + b.length / 256 % 256 * 256 + b.length % 256 = b.length := by omega
  rcases n with _ | _ | _ | _ | n
  · rfl
  · rfl
  · rfl
  · rfl
  · show takeM (k :: (b.length / 65536) :: (b.length / 256 % 256) :: (b.length % 256) :: (b.take n)) = _
    rw [takeM_cons, e, if_neg (by omega), if_pos (by rw [List.length_take]; omega)]
theorem take_long (k x y z : Nat) (r : List Nat) (h : 4096 < x * 65536 + y * 256 + z) : takeM (k :: x :: y :: z :: r) = (8, 0, [], 0) := if_pos h
/-- The client's first message. -/
structure He where
  rnd : List Nat
  sha : List Nat
  par : Nat × Nat × Nat × Nat
  psk : List Nat
  bnd : List Nat
def z32 : List Nat := List.replicate 32 0
def He.none : He := ⟨z32, z32, (0, 0, 0, 0), [], z32⟩
end Go.Proofs.YtegbnadnodlalaaDoor
