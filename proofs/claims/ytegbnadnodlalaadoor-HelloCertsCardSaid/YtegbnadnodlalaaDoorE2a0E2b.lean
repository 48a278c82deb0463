/- The program's copies joined: slices.Grow of nothing, slices.Concat. A handshake's messages as plain arithmetic: put, read back, cut. The program's fits, sized, message, Message (printed by gen14/eb.py). -/
import Derived.Test.YtegbnadnodlalaaDoorBg0Us
import Derived.Lib.SliceRun
namespace Go.Proofs.YtegbnadnodlalaaDoor
open Go.RowKit
def zBs (k : Nat) : List Value := vals (List.replicate k 0)
theorem zBs_length (k : Nat) : (zBs k).length = k := by simp [zBs, vals]
theorem zeroCells_zBs (m : Nat) : Builtin.zeroCells #[Value.int .u8 0] m = (zBs m).toArray := by
  apply Array.ext
  · simp [Builtin.zeroCells, zBs, vals]
  · intro j h1 h2
    simp [Builtin.zeroCells, zBs, vals, Nat.mod_one]
/-- A number of noughts behind nothing. -/
theorem nil_noughts (w : World) (ty : TypeId) (k : Nat) (hk : k ≤ 1000000) (hk0 : 0 < k) :
    (Builtin.append_ #[22, 3] ty #[.slice none 0 0, .int .i64 k]).run Tryd.prog w = .ok (.slice (some ⟨w.heap.size, 0, none⟩) k (grownCap w k 0 5))
      (w.drew.alloc (.cells ((zBs k).toArray ++ (zBs (grownCap w k 0 5 - k)).toArray) 5)) := by
  obtain ⟨i, hi, hs, hy, hz⟩ := info_u8
  have wr : IntKind.i64.wrap (k : Int) = (k : Int) := by rw [IntKind.wrap_i64]; omega
  have h48 : ¬ (281474976710656 < (k : Int)) := by omega
  have h0 : ¬ ((k : Int) < 0) := by omega
  have h63' : ¬ (9223372036854775807 < (k : Int)) := by omega
  have zc1 : (Value.int .u8 0).cells = #[Value.int .u8 0] := rfl
  have hcapn : Builtin.nextslicecap k 0 ≤ 281474976710656 := by
    have := growslice_fits (need := k) (old := 0) (bytes := 1) (by omega) (by omega)
    omega
  have h48' : ¬ (281474976710656 < Builtin.nextslicecap k 0) := by omega
  have hne : ¬ k = 0 := by omega
  simp [Builtin.append_, run_underlying Tryd.underlying22, run_underlying Tryd.underlying3, sizeOf, typeInfo, zeroValue, hi, hs, hy, hz, asInt, asIntOf, wr, h48, h0, hne, h63', h48', Question.forced, newRow, grownCap, zc1, zeroCells_zBs, Builtin.firstCells]
set_option maxHeartbeats 4000000 in
set_option maxRecDepth 100000 in
theorem grow_c (k : Nat) (hk : k ≤ 1000000) (W : World) :
    Calls Tryd.prog 59 #[.slice none 0 0, .int .i64 (k : Int)] W fun e w' => ∃ v, e = .returned v ∧ OwL W.heap.size w' v [] ∧ Below W.heap.size W w' := by
  by_cases h0 : k = 0
  · subst h0
    go_enter Tryd.func59, Tryd.ntmps59
    go_wp2
    go_ret
    exact ⟨_, rfl, OwL.nil _ _, Below.refl _ _⟩
  · have h1 := nil_noughts W 22 k hk (by omega)
    have hge := grownCap_ge W k 0 5
    have hcm2 : grownCap W k 0 5 ≤ maxLen := grownCap_le_maxLen W k 0 5 (by simp only [maxLen]; omega)
    have hz : ((zBs k).toArray ++ (zBs (grownCap W k 0 5 - k)).toArray).size = grownCap W k 0 5 := by
      simp only [Array.size_append, List.size_toArray, zBs_length]
      omega
    have b1 := (below_drew (Below.refl W.heap.size W)).alloc (Nat.le_refl _) (.cells ((zBs k).toArray ++ (zBs (grownCap W k 0 5 - k)).toArray) 5)
    have g1 := heap_alloc_new W.drew (.cells ((zBs k).toArray ++ (zBs (grownCap W k 0 5 - k)).toArray) 5)
    generalize ((zBs k).toArray ++ (zBs (grownCap W k 0 5 - k)).toArray) = Z at *
    generalize grownCap W k 0 5 = cap at *
    generalize World.alloc W.drew _ = w1 at *
    have O : OwL W.heap.size w1 (.slice (some ⟨W.heap.size, 0, none⟩) 0 cap) [] := ⟨rfl, .inr ⟨W.heap.size, cap, Z, rfl, Nat.le_refl _, g1, Nat.zero_le _, hcm2, by rw [hz, Nat.mul_one], by simp [vals]⟩⟩
    have B := Lib.hid (And.intro O b1)
    have k0 : (0 : Int) < (k : Int) := by omega
    have k1 : ¬ (k : Int) < 0 := by omega
    have kw : IntKind.i64.wrap (k : Int) = (k : Int) := by rw [IntKind.wrap_i64]; omega
    have c0 : (0 : Int) ≤ (cap : Int) := by omega
    clear O b1 g1 hz hge hcm2 h0
    replace h1 := Lib.hid h1
    go_enter Tryd.func59, Tryd.ntmps59
    go_upto_region 5 with fail
    rename_i aK
    refine wp_region_seq ?_
    refine wpSeq_yield (S := fun _ => True) (yieldsIf_move rfl _ rfl (.slice none 0 0) rfl) trivial ?_
    simp only [AP]
    refine wpSeq_yield (S := fun _ => True) (yieldsIf_move rfl _ rfl (.slice none 0 0) rfl) trivial ?_
    simp only [AP]
    refine wpSeq_yield (S := fun _ => True) (v := .int .i64 0) (Or.inl ⟨by rfl, fun w' hw' => by go_simp⟩) trivial ?_
    simp only [AP]
    refine wpSeq_yield (S := fun _ => True) (v := .slice none 0 0) (Or.inl ⟨by rfl, fun w' hw' => by go_simp⟩) trivial ?_
    simp only [AP]
    refine wpSeq_yield (S := fun _ => True) (yieldsIf_move rfl _ rfl (.int .i64 (k : Int)) rfl) trivial ?_
    simp only [AP]
    refine wpSeq_wp rfl (wp_append_run _ _ _ _ rfl _ _ rfl rfl _ w1 h1.out ?_)
    simp only [AP]
    refine wpSeq_yield (S := fun _ => True) (yieldsIf_move rfl _ rfl (.slice none 0 0) rfl) trivial ?_
    simp only [AP]
    refine wpSeq_yield (S := fun _ => True) (v := .int .i64 0) (Or.inl ⟨by rfl, fun w' hw' => by go_simp⟩) trivial ?_
    simp only [AP]
    refine wpSeq_yield (S := fun _ => True) (v := .slice (some ⟨W.heap.size, 0, none⟩) 0 cap) (Or.inl ⟨by rfl, fun w' hw' => by go_simp⟩) trivial ?_
    simp only [AP]
    refine wpSeq_yield (S := fun _ => True) (yieldsIf_assign rfl _ rfl (.slice (some ⟨W.heap.size, 0, none⟩) 0 cap) rfl) trivial ?_
    simp only [AP]
    refine wpSeq_nil ?_
    refine (by assumption : ∀ (a : Act) (w : World), _ → _) _ _ ?_
    go_wp2
    go_ret
    exact ⟨_, rfl, B.out⟩
set_option maxHeartbeats 8000000 in
set_option maxRecDepth 100000 in
theorem concat_c (ls : List (List Nat)) (p : Option Addr) (n c : Nat) (hn : ls.flatten.length ≤ 100000) (W : World) (hs : SP W (.slice p n c) ls) (hl : ls.length ≤ 100000) :
    Calls Tryd.prog 39 #[.slice p n c] W fun e w' => ∃ v, e = .returned v ∧ OwL W.heap.size w' v ls.flatten ∧ Below W.heap.size W w' := by
  have GC := Lib.hid (grow_c ls.flatten.length (by omega))
  obtain ⟨p', c', e, hc, h3⟩ := hs
  simp only [Value.slice.injEq] at e
  obtain ⟨rfl, rfl, rfl⟩ := e
  have CE := Lib.hid (show ∀ (j : Nat) (hj : j < ls.length), ∃ g o u, p = some ⟨g, o, none⟩ ∧ g < W.heap.size ∧ W.cell? ⟨g, o + j, none⟩ = some u ∧ SB W u ls[j] from fun j hj => by
    rcases h3 with h3 | ⟨g, o, rfl, hg, h6⟩
    · subst h3
      exact absurd hj (Nat.not_lt_zero _)
    · obtain ⟨u, hu, hs⟩ := h6 j hj
      exact ⟨g, o, u, rfl, hg, hu, hs⟩)
  have FL := Lib.hid (fun j (hj : j < ls.length) => show (ls.take (j + 1)).flatten = (ls.take j).flatten ++ ls[j] by
    rw [← List.take_append_getElem hj, List.flatten_append]
    simp)
  have FT := Lib.hid (show ∀ j, (ls.take j).flatten.length ≤ 100000 from fun j => by
    have e : ls.flatten = (ls.take j).flatten ++ (ls.drop j).flatten := by
      conv => lhs; rw [← List.take_append_drop j ls]
      rw [List.flatten_append]
    have := congrArg List.length e
    rw [List.length_append] at this
    omega)
  have FE := Lib.hid (show ls.take ls.length = ls from List.take_length)
  have F0 := Lib.hid (show ls.take 0 = [] from List.take_zero)
  obtain ⟨T, hT⟩ : ∃ T, ls.flatten.length = T := ⟨_, rfl⟩
  rw [hT] at GC
  replace hT := Lib.hid hT
  obtain ⟨N, hN⟩ : ∃ N, ls.length = N := ⟨_, rfl⟩
  have hN' := Lib.hid hN
  rw [hN] at hc hl ⊢
  replace hc := Lib.hid hc
  replace hl := Lib.hid hl
  clear hN h3 hn
  go_enter Tryd.func39, Tryd.ntmps39
  go_upto_region 3 with fail
  go_loopw [3, 5, 11] (fun v3 _ v wr => ∃ j : Nat, j ≤ N ∧ v = .int .i64 (j : Int) ∧ v3 = .int .i64 (((ls.take j).flatten.length : Nat) : Int) ∧ wr = W) (fun _ _ v _ => (N - intOf v).toNat)
  case atStart => exact ⟨0, by omega, rfl, by rw [F0.out]; rfl, rfl⟩
  case round =>
    obtain ⟨j, jm, rfl, rfl, hw⟩ := hrel
    subst wr
    by_cases jj : j = N
    · subst jj
      have es : (ls.take j).flatten.length = T := by rw [← hT.out, ← hN'.out, FE.out]
      rw [es]
      have jm' : ¬ ((j : Nat) : Int) < (j : Int) := by omega
      have t0 : ¬ (T : Int) < 0 := by omega
      clear jm es
      go_wp2_with fail
      refine (GC.out W).mono ?_
      rintro _ w1 ⟨v6, rfl, O6, b6⟩
      have D := Lib.hid (show OwL W.heap.size w1 v6 (ls.take 0).flatten ∧ Below W.heap.size W w1 by rw [F0.out]; exact ⟨O6, b6⟩)
      clear O6 b6 GC
      go_upto_region 11 with fail
      go_loopw [6, 8, 27] (fun v6 _ v wr => ∃ i : Nat, i ≤ j ∧ v = .int .i64 (i : Int) ∧ OwL W.heap.size wr v6 (ls.take i).flatten ∧ Below W.heap.size W wr) (fun _ _ v _ => (j - intOf v).toNat)
      case atStart => exact ⟨0, by omega, rfl, D.out.1, D.out.2⟩
      case round =>
        obtain ⟨i, im, rfl, O, b⟩ := hrel
        clear D
        by_cases ii : i = j
        · subst ii
          have es : (ls.take i).flatten = ls.flatten := by rw [← hN'.out, FE.out]
          rw [es] at O
          clear im es
          go_wp2
          go_ret
          exact ⟨_, rfl, O, b⟩
        · have il : i < j := by omega
          have il' : i < ls.length := by rw [hN'.out]; exact il
          obtain ⟨g, o, u, hp, hg, hu, hs⟩ := CE.out i il'
          subst hp
          have cu : wr.cell? ⟨g, o + i, none⟩ = some u := (b.cell (p := ⟨g, o + i, none⟩) hg).trans hu
          have fl := FL.out i il'
          have ft := FT.out (i + 1)
          rw [fl, List.length_append] at ft
          obtain ⟨v', w', h1, h2, h3⟩ := append_more W.heap.size W wr 22 _ u _ _ O (hs.below b) (by omega) b b.size
          obtain ⟨pu, cu', hu'⟩ := hs.shape
          rw [← fl] at h2
          subst hu'
          have z1 : ((i : Nat) : Int) < (j : Int) := by omega
          have z2 : IntKind.i64.wrap ((i : Int) + 1) = ((i + 1 : Nat) : Int) := by have := hl.out; rw [IntKind.wrap_i64]; omega
          have z0 : (0 : Int) ≤ (i : Int) := by omega
          replace h2 := Lib.hid (And.intro h2 h3)
          replace h1 := Lib.hid h1
          clear fl ft hs hu hg O b h3 jm' t0
          go_upto_region 11 with fail
          rename_i aK
          refine wp_region_seq ?_
          refine wpSeq_yield (S := fun _ => True) (v := .bool true) (Or.inl ⟨by rfl, fun w' hw' => by (go_simp; try omega)⟩) trivial ?_
          simp only [AP]
          refine wpSeq_nil ?_
          refine (by assumption : ∀ (a : Act) (w : World), _ → _) _ _ ?_
          go_upto_region 12 with fail
          rename_i aK
          refine wp_region_seq ?_
          refine wpSeq_yield (S := fun _ => True) (v := .pointer (some ⟨g, o + i, none⟩)) (Or.inl ⟨by rfl, fun w' hw' => by (go_simp)⟩) trivial ?_
          simp only [AP]
          refine wpSeq_yield (S := fun w' => w' = wr) (v := .slice pu ls[i].length cu') (Or.inl ⟨by rfl, fun w' hw' => by (rw [hw']; go_simp)⟩) rfl ?_
          simp only [AP]
          refine wpSeq_yield (S := fun _ => True) (yieldsIf_assign rfl _ rfl (.slice pu ls[i].length cu') rfl) trivial ?_
          simp only [AP]
          refine wpSeq_nil ?_
          refine (by assumption : ∀ (a : Act) (w : World), _ → _) _ _ ?_
          go_upto_region 13 with fail
          rename_i aK
          refine wp_region_seq ?_
          refine wpSeq_yield (S := fun _ => True) (yieldsIf_move rfl _ rfl _ rfl) trivial ?_
          simp only [AP]
          refine wpSeq_yield (S := fun _ => True) (yieldsIf_move rfl _ rfl (.slice pu ls[i].length cu') rfl) trivial ?_
          simp only [AP]
          refine wpSeq_wp rfl (wp_append_run _ _ _ _ rfl _ _ rfl rfl _ w' h1.out ?_)
          simp only [AP]
          refine wpSeq_yield (S := fun _ => True) (yieldsIf_assign rfl _ rfl (v') rfl) trivial ?_
          simp only [AP]
          refine wpSeq_nil ?_
          refine (by assumption : ∀ (a : Act) (w : World), _ → _) _ _ ?_
          clear cu h1
          go_upto_region 14 with fail
          rename_i aK
          refine wp_region_seq ?_
          refine wpSeq_yield (S := fun _ => True) (v := .int .i64 ((i + 1 : Nat) : Int)) (Or.inl ⟨by rfl, fun w' hw' => by go_simp⟩) trivial ?_
          simp only [AP]
          refine wpSeq_yield (S := fun _ => True) (yieldsIf_move rfl _ rfl (.int .i64 ((i + 1 : Nat) : Int)) rfl) trivial ?_
          simp only [AP]
          refine wpSeq_nil ?_
          go_wp2
          exact ⟨⟨i + 1, by omega, rfl, h2.out.1, h2.out.2⟩, by simp only [intOf]; omega⟩
    · have il : j < N := by omega
      have il' : j < ls.length := by rw [hN'.out]; exact il
      obtain ⟨g, o, u, hp, hg, hu, hs⟩ := CE.out j il'
      subst hp
      have fl := FL.out j il'
      have ft := FT.out (j + 1)
      have hfl := congrArg List.length fl
      rw [List.length_append] at hfl
      rw [hfl] at ft
      obtain ⟨pu, cu', hu'⟩ := hs.shape
      subst hu'
      obtain ⟨a, ha⟩ : ∃ a, (ls.take j).flatten.length = a := ⟨_, rfl⟩
      obtain ⟨m, hm⟩ : ∃ m, ls[j].length = m := ⟨_, rfl⟩
      rw [ha, hm] at hfl ft
      rw [hm] at hu
      rw [ha]
      have z1 : ((j : Nat) : Int) < (N : Int) := by omega
      have z2 : IntKind.i64.wrap ((j : Int) + 1) = ((j + 1 : Nat) : Int) := by have := hl.out; rw [IntKind.wrap_i64]; omega
      have z3 : IntKind.i64.wrap ((a : Int) + (m : Int)) = ((a + m : Nat) : Int) := by rw [IntKind.wrap_i64]; omega
      have z4 : ¬ ((a + m : Nat) : Int) < 0 := by omega
      have z0 : (0 : Int) ≤ (j : Int) := by omega
      replace hfl := Lib.hid hfl
      clear fl ft hs hg GC ha hm
      go_upto_region 3 with fail
      rename_i aK
      refine wp_region_seq ?_
      refine wpSeq_yield (S := fun _ => True) (v := .bool true) (Or.inl ⟨by rfl, fun w' hw' => by (go_simp; try omega)⟩) trivial ?_
      simp only [AP]
      refine wpSeq_nil ?_
      refine (by assumption : ∀ (a : Act) (w : World), _ → _) _ _ ?_
      go_upto_region 4 with fail
      rename_i aK
      refine wp_region_seq ?_
      refine wpSeq_yield (S := fun _ => True) (v := .pointer (some ⟨g, o + j, none⟩)) (Or.inl ⟨by rfl, fun w' hw' => by (go_simp)⟩) trivial ?_
      simp only [AP]
      refine wpSeq_yield (S := fun w' => w' = W) (v := .slice pu m cu') (Or.inl ⟨by rfl, fun w' hw' => by (rw [hw']; go_simp)⟩) rfl ?_
      simp only [AP]
      refine wpSeq_yield (S := fun _ => True) (yieldsIf_assign rfl _ rfl (.slice pu m cu') rfl) trivial ?_
      simp only [AP]
      refine wpSeq_nil ?_
      refine (by assumption : ∀ (a : Act) (w : World), _ → _) _ _ ?_
      go_upto_region 5 with fail
      rename_i aK
      refine wp_region_seq ?_
      refine wpSeq_yield (S := fun _ => True) (yieldsIf_move rfl _ rfl (.int .i64 (a : Int)) rfl) trivial ?_
      simp only [AP]
      refine wpSeq_yield (S := fun _ => True) (yieldsIf_move rfl _ rfl (.slice pu m cu') rfl) trivial ?_
      simp only [AP]
      refine wpSeq_yield (S := fun _ => True) (v := .int .i64 (m : Int)) (Or.inl ⟨by rfl, fun w' hw' => by go_simp⟩) trivial ?_
      simp only [AP]
      refine wpSeq_yield (S := fun _ => True) (v := .int .i64 ((a + m : Nat) : Int)) (Or.inl ⟨by rfl, fun w' hw' => by (go_simp; try omega)⟩) trivial ?_
      simp only [AP]
      refine wpSeq_yield (S := fun _ => True) (yieldsIf_assign rfl _ rfl (.int .i64 ((a + m : Nat) : Int)) rfl) trivial ?_
      simp only [AP]
      refine wpSeq_nil ?_
      refine (by assumption : ∀ (a : Act) (w : World), _ → _) _ _ ?_
      go_upto_region 6 with fail
      rename_i aK
      refine wp_region_seq ?_
      refine wpSeq_yield (S := fun _ => True) (yieldsIf_move rfl _ rfl (.int .i64 ((a + m : Nat) : Int)) rfl) trivial ?_
      simp only [AP]
      refine wpSeq_yield (S := fun _ => True) (v := .bool false) (Or.inl ⟨by rfl, fun w' hw' => by (go_simp; try omega)⟩) trivial ?_
      simp only [AP]
      refine wpSeq_nil ?_
      refine (by assumption : ∀ (a : Act) (w : World), _ → _) _ _ ?_
      go_upto_region 8 with fail
      rename_i aK
      refine wp_region_seq ?_
      refine wpSeq_yield (S := fun _ => True) (v := .int .i64 ((j + 1 : Nat) : Int)) (Or.inl ⟨by rfl, fun w' hw' => by go_simp⟩) trivial ?_
      simp only [AP]
      refine wpSeq_yield (S := fun _ => True) (yieldsIf_move rfl _ rfl (.int .i64 ((j + 1 : Nat) : Int)) rfl) trivial ?_
      simp only [AP]
      refine wpSeq_nil ?_
      go_wp2
      exact ⟨⟨j + 1, by omega, rfl, by rw [hfl.out], trivial⟩, by simp only [intOf]; omega⟩
end Go.Proofs.YtegbnadnodlalaaDoor
namespace Go.Proofs.YtegbnadnodlalaaDoor
open Go
def failS (c d : Nat) : Nat := if c = 0 then d else c
def bytesS (n : Nat) (l : List Nat) (c : Nat) : List Nat × List Nat × Nat := if c ≠ 0 then ([], l, c) else if l.length < n then ([], l, 3) else (l.take n, l.drop n, 0)
def byteS (l : List Nat) (c : Nat) : Nat × List Nat × Nat := ((bytesS 1 l c).1.getD 0 0, (bytesS 1 l c).2.1, (bytesS 1 l c).2.2)
def endS (l : List Nat) (c : Nat) : Nat := if l = [] then c else failS c 4
theorem bytesS_put (a r : List Nat) (n : Nat) (h : a.length = n) : bytesS n (a ++ r) 0 = (a, r, 0) := by
  unfold bytesS
  rw [if_neg (by decide), if_neg (by rw [List.length_append]; omega), List.take_left' h, List.drop_left' h]
theorem byteS_put (x : Nat) (r : List Nat) : byteS (x :: r) 0 = (x, r, 0) := by
  have := bytesS_put [x] r 1 rfl
  unfold byteS
  rw [show x :: r = [x] ++ r from rfl, this]
  rfl
/-- Parameters put: the error's number, the bytes. -/
def bigP (a b c d : Nat) : Prop := 4611686018427387904 ≤ a ∨ 4611686018427387904 ≤ b ∨ 4611686018427387904 ≤ c ∨ 4611686018427387904 ≤ d
instance (a b c d : Nat) : Decidable (bigP a b c d) := by unfold bigP; infer_instance
/-- A message: the error's number, the bytes. -/
def msgB (k : Nat) (b : List Nat) : List Nat := k :: (b.length / 65536) :: (b.length / 256 % 256) :: (b.length % 256) :: b
def msgF (k : Nat) (b : List Nat) : Nat × List Nat := if 4096 < b.length then (8, []) else (0, msgB k b)
theorem msgB_length (k : Nat) (b : List Nat) : (msgB k b).length = 4 + b.length := by simp [msgB]; omega
/-- The client's first message. -/
structure He where
  rnd : List Nat
  sha : List Nat
  par : Nat × Nat × Nat × Nat
  psk : List Nat
  bnd : List Nat
def z32 : List Nat := List.replicate 32 0
def He.none : He := ⟨z32, z32, (0, 0, 0, 0), [], z32⟩
/-- A certificate. -/
def cerB (n k s : List Nat) : List Nat := n.length :: (n ++ (k ++ s))
def cerF (n k s : List Nat) : Nat × List Nat := if n.length < 1 ∨ 32 < n.length then (2, []) else (0, msgB 11 (cerB n k s))
def readC (l : List Nat) : Nat × List Nat × List Nat × List Nat :=
  let n := byteS l 0
  let m := bytesS n.1 n.2.1 (if n.1 < 1 ∨ 32 < n.1 then failS n.2.2 2 else n.2.2)
  let k := bytesS 32 m.2.1 m.2.2
  let s := bytesS 64 k.2.1 k.2.2
  if endS s.2.1 s.2.2 ≠ 0 then (endS s.2.1 s.2.2, [], z32, List.replicate 64 0) else (0, m.1, k.1, s.1)
theorem readC_back (n k s : List Nat) (h1 : 1 ≤ n.length) (h2 : n.length ≤ 32) (h3 : k.length = 32) (h4 : s.length = 64) : readC (cerB n k s) = (0, n, k, s) := by
  unfold readC cerB
  rw [byteS_put]
  dsimp only
  rw [if_neg (show ¬ (n.length < 1 ∨ 32 < n.length) by omega), bytesS_put _ _ _ rfl]
  dsimp only
  rw [bytesS_put _ _ _ h3]
  dsimp only
  have b1 := bytesS_put s [] 64 h4
  rw [List.append_nil] at b1
  rw [b1]
  rfl
end Go.Proofs.YtegbnadnodlalaaDoor
namespace Go.Proofs.YtegbnadnodlalaaDoor
open Go.RowKit
theorem vals_four (a b c d : Nat) : (#[.int .u8 (a : Int), .int .u8 (b : Int), .int .u8 (c : Int), .int .u8 (d : Int)] : Array Value) = (vals [a, b, c, d]).toArray := rfl
theorem vals_one (a : Nat) : (#[.int .u8 (a : Int)] : Array Value) = (vals [a]).toArray := rfl
/-- Bytes behind a row that was just laid. -/
theorem append_fresh (W : World) (ty : TypeId) (x : Value) (l m : List Nat) (hx : SB W x m) (hl : l.length + m.length ≤ 1000000) (B : Nat) (w0 : World) (b : Below B w0 W) (hB : B ≤ W.heap.size) :
    ∃ v' w', (Builtin.append_ #[22, 22] ty #[.slice (some ⟨W.heap.size, 0, none⟩) l.length l.length, x]).run Tryd.prog (W.alloc (.cells (vals l).toArray 5)) = .ok v' w' ∧ OwL B w' v' (l ++ m) ∧ Below B w0 w' := by
  have b1 := (Below.refl W.heap.size W).alloc (Nat.le_refl _) (.cells (vals l).toArray 5)
  exact append_more B w0 _ ty _ x l m (OwL.new B W l hB (by simp only [maxLen]; omega)) (hx.below b1) hl (b.trans (b1.mono hB)) (Nat.le_trans hB b1.size)
set_option maxHeartbeats 8000000 in
set_option maxRecDepth 100000 in
theorem fits_c (n : Nat) (W : World) (b : Bool) (hb : decide (1 ≤ n ∧ n ≤ 32) = b) : Calls Tryd.prog 19 #[.int .i64 (n : Int)] W fun e w' => e = .returned (.bool b) ∧ w' = W := by
  have hh := hb
  by_cases h1 : 1 ≤ n
  · have e1 : (1 : Int) ≤ (n : Int) := by omega
    by_cases h2 : n ≤ 32
    · have e2 : (n : Int) ≤ 32 := by omega
      rw [decide_eq_true ⟨h1, h2⟩] at hh
      subst hh
      clear hb h1 h2
      go_enter Tryd.func19, Tryd.ntmps19
      go_wp2
      go_ret
      exact ⟨rfl, rfl⟩
    · have e2 : ¬ (n : Int) ≤ 32 := by omega
      rw [decide_eq_false (fun h => h2 h.2)] at hh
      subst hh
      clear hb h1 h2
      go_enter Tryd.func19, Tryd.ntmps19
      go_wp2
      go_ret
      exact ⟨rfl, rfl⟩
  · have e1 : ¬ (1 : Int) ≤ (n : Int) := by omega
    rw [decide_eq_false (fun h => h1 h.1)] at hh
    subst hh
    clear hb h1
    go_enter Tryd.func19, Tryd.ntmps19
    go_wp2
    go_ret
    exact ⟨rfl, rfl⟩
set_option maxHeartbeats 8000000 in
set_option maxRecDepth 100000 in
theorem sized_c (l : List Nat) (p : Option Addr) (n c : Nat) (hn : n < 256) (W : World) (hs : SB W (.slice p n c) l) :
    Calls Tryd.prog 20 #[.slice p n c] W fun e w' => ∃ v, e = .returned v ∧ OwL W.heap.size w' v (n :: l) ∧ Below W.heap.size W w' := by
  obtain ⟨v', w', h1, h2, h3⟩ := append_fresh W 22 (.slice p n c) [n] l hs (by have := hs.len.1; simp only [List.length_cons, List.length_nil]; omega) W.heap.size W (Below.refl _ _) (Nat.le_refl _)
  rw [← vals_one] at h1
  have F := Lib.hid (And.intro h2 h3)
  replace h1 := Lib.hid h1
  have wu : IntKind.u8.wrap (n : Int) = (n : Int) := by rw [IntKind.wrap_u8]; omega
  clear h2 h3 hs
  go_enter Tryd.func20, Tryd.ntmps20
  go_upto_region 1 with fail
  rename_i aK
  refine wp_region_seq ?_
  refine wpSeq_yield (S := fun _ => True) (yieldsIf_move rfl _ rfl (.slice p n c) rfl) trivial ?_
  simp only [AP]
  refine wpSeq_yield (S := fun _ => True) (v := .int .i64 (n : Int)) (Or.inl ⟨by rfl, fun w' hw' => by go_simp⟩) trivial ?_
  simp only [AP]
  refine wpSeq_yield (S := fun _ => True) (v := .int .u8 (n : Int)) (Or.inl ⟨by rfl, fun w' hw' => by go_simp⟩) trivial ?_
  simp only [AP]
  refine wpSeq_wp rfl ?_
  unfold Oper.wp execOp
  go_simp
  refine wpSeq_yield (S := fun _ => True) (yieldsIf_move rfl _ rfl (.slice p n c) rfl) trivial ?_
  simp only [AP]
  refine wpSeq_wp rfl (wp_append_run _ _ _ _ rfl _ _ rfl rfl _ w' h1.out ?_)
  simp only [AP]
  refine wpSeq_yield (S := fun _ => True) (yieldsIf_assign rfl _ rfl (v') rfl) trivial ?_
  simp only [AP]
  refine wpSeq_nil ?_
  refine (by assumption : ∀ (a : Act) (w : World), _ → _) _ _ ?_
  go_wp2
  go_ret
  exact ⟨_, rfl, F.out.1, F.out.2⟩
set_option maxHeartbeats 8000000 in
set_option maxRecDepth 100000 in
theorem message_c (k : Nat) (ls : List (List Nat)) (p : Option Addr) (n c : Nat) (hn : ls.flatten.length ≤ 50000) (W : World) (hs : SP W (.slice p n c) ls) (hl : ls.length ≤ 100000) :
    Calls Tryd.prog 17 #[.int .u8 (k : Int), .slice p n c] W fun e w' => ∃ v, e = .returned v ∧ OwL W.heap.size w' v (msgB k ls.flatten) ∧ Below W.heap.size W w' := by
  have CC := Lib.hid (concat_c ls p n c (by omega) W hs hl)
  unfold msgB
  generalize ls.flatten = b at *
  obtain ⟨m, hm⟩ : ∃ m, b.length = m := ⟨_, rfl⟩
  rw [hm] at hn ⊢
  have e1 : ((m : Nat) : Int) / 65536 = ((m / 65536 : Nat) : Int) := by omega
  have e2 : ((m : Nat) : Int) / 256 = ((m / 256 : Nat) : Int) := by omega
  have e3 : IntKind.u8.wrap ((m / 65536 : Nat) : Int) = ((m / 65536 : Nat) : Int) := by rw [IntKind.wrap_u8]; omega
  have e4 : IntKind.u8.wrap ((m / 256 : Nat) : Int) = ((m / 256 % 256 : Nat) : Int) := by rw [IntKind.wrap_u8]; omega
  have e5 : IntKind.u8.wrap (m : Int) = ((m % 256 : Nat) : Int) := by rw [IntKind.wrap_u8]; omega
  obtain ⟨x1, hx1⟩ : ∃ x, m / 65536 = x := ⟨_, rfl⟩
  obtain ⟨x2, hx2⟩ : ∃ x, m / 256 = x := ⟨_, rfl⟩
  obtain ⟨x3, hx3⟩ : ∃ x, x2 % 256 = x := ⟨_, rfl⟩
  obtain ⟨x4, hx4⟩ : ∃ x, m % 256 = x := ⟨_, rfl⟩
  rw [hx1] at e1 e3 ⊢
  rw [hx2] at e2 e4 ⊢
  rw [hx3] at e4 ⊢
  rw [hx4] at e5 ⊢
  have AF := Lib.hid (fun (w1 : World) (v1 : Value) (h : SB w1 v1 b) (b1 : Below W.heap.size W w1) => append_fresh w1 22 v1 [k, x1, x3, x4] b h (by simp only [List.length_cons, List.length_nil]; omega) W.heap.size W b1 b1.size)
  have HM := Lib.hid hm
  clear hs hl hx1 hx2 hx3 hx4 hm hn
  go_enter Tryd.func17, Tryd.ntmps17
  go_wp2_with fail
  refine CC.out.mono ?_
  rintro _ w1 ⟨v1, rfl, O1, b1⟩
  clear CC
  obtain ⟨p1, c1, hv⟩ := O1.shape
  rw [HM.out] at hv
  subst hv
  obtain ⟨v', w', h1, h2, h3⟩ := AF.out w1 _ O1.sb b1
  have F := Lib.hid (And.intro h2 h3)
  rw [← vals_four] at h1
  replace h1 := Lib.hid h1
  clear AF h2 h3 b1 O1
  go_upto_region 2 with fail
  rename_i aK
  refine wp_region_seq ?_
  refine wpSeq_yield (S := fun _ => True) (yieldsIf_move rfl _ rfl (.slice p1 m c1) rfl) trivial ?_
  simp only [AP]
  refine wpSeq_yield (S := fun _ => True) (v := .int .i64 (m : Int)) (Or.inl ⟨by rfl, fun w' hw' => by go_simp⟩) trivial ?_
  simp only [AP]
  refine wpSeq_yield (S := fun _ => True) (yieldsIf_assign rfl _ rfl (.int .i64 (m : Int)) rfl) trivial ?_
  simp only [AP]
  refine wpSeq_nil ?_
  refine (by assumption : ∀ (a : Act) (w : World), _ → _) _ _ ?_
  go_upto_region 3 with fail
  rename_i aK
  refine wp_region_seq ?_
  refine wpSeq_yield (S := fun _ => True) (yieldsIf_move rfl _ rfl (.int .u8 (k : Int)) rfl) trivial ?_
  simp only [AP]
  refine wpSeq_yield (S := fun _ => True) (yieldsIf_move rfl _ rfl (.int .i64 (m : Int)) rfl) trivial ?_
  simp only [AP]
  refine wpSeq_yield (S := fun _ => True) (v := .int .i64 (x1 : Int)) (Or.inl ⟨by rfl, fun w' hw' => by go_simp⟩) trivial ?_
  simp only [AP]
  refine wpSeq_yield (S := fun _ => True) (v := .int .u8 (x1 : Int)) (Or.inl ⟨by rfl, fun w' hw' => by go_simp⟩) trivial ?_
  simp only [AP]
  refine wpSeq_yield (S := fun _ => True) (yieldsIf_move rfl _ rfl (.int .i64 (m : Int)) rfl) trivial ?_
  simp only [AP]
  refine wpSeq_yield (S := fun _ => True) (v := .int .i64 (x2 : Int)) (Or.inl ⟨by rfl, fun w' hw' => by go_simp⟩) trivial ?_
  simp only [AP]
  refine wpSeq_yield (S := fun _ => True) (v := .int .u8 (x3 : Int)) (Or.inl ⟨by rfl, fun w' hw' => by go_simp⟩) trivial ?_
  simp only [AP]
  refine wpSeq_yield (S := fun _ => True) (yieldsIf_move rfl _ rfl (.int .i64 (m : Int)) rfl) trivial ?_
  simp only [AP]
  refine wpSeq_yield (S := fun _ => True) (v := .int .u8 (x4 : Int)) (Or.inl ⟨by rfl, fun w' hw' => by go_simp⟩) trivial ?_
  simp only [AP]
  refine wpSeq_wp rfl ?_
  unfold Oper.wp execOp
  go_simp
  refine wpSeq_yield (S := fun _ => True) (yieldsIf_move rfl _ rfl (.slice p1 m c1) rfl) trivial ?_
  simp only [AP]
  refine wpSeq_wp rfl (wp_append_run _ _ _ _ rfl _ _ rfl rfl _ w' h1.out ?_)
  simp only [AP]
  refine wpSeq_yield (S := fun _ => True) (yieldsIf_assign rfl _ rfl (v') rfl) trivial ?_
  simp only [AP]
  refine wpSeq_nil ?_
  refine (by assumption : ∀ (a : Act) (w : World), _ → _) _ _ ?_
  go_wp2
  go_ret
  exact ⟨_, rfl, F.out.1, F.out.2⟩
theorem sp_one1 {w : World} {v : Value} {l : List Nat} (t : TypeId) (h : SB w v l) : SP (w.alloc (.cells #[v] t)) (.slice (some ⟨w.heap.size, 0, none⟩) 1 1) [l] := by
  refine ⟨_, 1, rfl, Nat.le_refl _, Or.inr ⟨w.heap.size, 0, rfl, by simp, fun i hi => ?_⟩⟩
  obtain rfl : i = 0 := by simp at hi; exact hi
  exact ⟨v, by rw [(Blk.new w t #[v]).cell]; rfl, h.below ((Below.refl _ _).alloc (Nat.le_refl _) _)⟩
set_option maxHeartbeats 8000000 in
set_option maxRecDepth 100000 in
theorem msg_c (k : Nat) (l : List Nat) (p : Option Addr) (n c : Nat) (hn : n ≤ 50000) (W : World) (hs : SB W (.slice p n c) l) :
    Calls Tryd.prog 7 #[.int .u8 (k : Int), .slice p n c] W fun e w' => ∃ v, e = .returned (.tuple #[v, .int .i64 ((msgF k l).1 : Int)]) ∧ OwL W.heap.size w' v (msgF k l).2 ∧ Below W.heap.size W w' := by
  have ln := hs.len.1
  unfold msgF
  by_cases h : 4096 < l.length
  · rw [if_pos h]
    have z : (4096 : Int) < (n : Int) := by omega
    clear hs h ln
    go_enter Tryd.func7, Tryd.ntmps7
    go_wp2
    refine bodyPost_ret (results_tmp2 rfl _ _ _) rfl ?_
    exact ⟨_, rfl, OwL.nil _ _, Below.refl _ _⟩
  · rw [if_neg h]
    have z : ¬ (4096 : Int) < (n : Int) := by omega
    have b1 := (Below.refl W.heap.size W).alloc (Nat.le_refl _) (.cells #[.slice p n c] 22)
    have MC := Lib.hid (message_c k [l] (some ⟨W.heap.size, 0, none⟩) 1 1 (by simp only [List.flatten_cons, List.flatten_nil, List.append_nil]; omega) _ (sp_one1 22 hs) (Nat.le_of_ble_eq_true rfl))
    rw [show [l].flatten = l by simp] at MC
    replace b1 := Lib.hid b1
    clear hs h ln
    go_enter Tryd.func7, Tryd.ntmps7
    go_wp2_with fail
    refine MC.out.mono ?_
    rintro _ w1 ⟨v1, rfl, O1, b2⟩
    clear MC
    go_wp2
    refine bodyPost_ret (results_tmp2 rfl _ _ _) rfl ?_
    exact ⟨_, rfl, O1.mono b1.out.size, b1.out.trans (b2.mono b1.out.size)⟩
end Go.Proofs.YtegbnadnodlalaaDoor
