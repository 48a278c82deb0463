/- The reference's Put, PutAll: their contracts (printed by genyc.py). -/
import Derived.Test.YtdlhclakdllogaaYb
import Derived.Test.YtdlhclakdllogaaLq
namespace Go.Proofs.Ytdlhclakdllogaa
open Go.RowKit

theorem OwL.shape {B : Nat} {w : World} {v : Value} {l : List Nat} (h : OwL B w v l) : ∃ p c, v = .slice p l.length c := by
  rcases h.row with ⟨rfl, rfl⟩ | ⟨g, c, rfl, _⟩
  · exact ⟨none, 0, rfl⟩
  · exact ⟨_, c, rfl⟩
theorem vput0 (n : Nat) (h : n < 64) : vput n = [n % 256] := by
  show wide n (vtop n) = _
  rw [show vtop n = 0 from if_pos h]
  show [n / 256 ^ 0 % 256 + 64 * 0] = _
  rw [Nat.pow_zero, Nat.div_one]
  rfl
theorem vput1 (n : Nat) (h0 : ¬ n < 64) (h : n < 16384) : vput n = [n / 256 % 256 + 64, n % 256] := by
  show wide n (vtop n) = _
  rw [show vtop n = 1 by unfold vtop; rw [if_neg h0, if_pos h]]
  show [n / 256 ^ 1 % 256 + 64 * 1, n / 256 ^ 0 % 256] = _
  rw [Nat.pow_zero, Nat.div_one]
theorem vput2 (n : Nat) (h0 : ¬ n < 64) (h1 : ¬ n < 16384) (h : n < 1073741824) : vput n = [n / 16777216 % 256 + 128, n / 65536 % 256, n / 256 % 256, n % 256] := by
  show wide n (vtop n) = _
  rw [show vtop n = 2 by unfold vtop; rw [if_neg h0, if_neg h1, if_pos h]]
  show [n / 256 ^ 3 % 256 + 64 * 2, n / 256 ^ 2 % 256, n / 256 ^ 1 % 256, n / 256 ^ 0 % 256] = _
  rw [Nat.pow_zero, Nat.div_one]
theorem vput3 (n : Nat) (h0 : ¬ n < 64) (h1 : ¬ n < 16384) (h2 : ¬ n < 1073741824) : vput n = [n / 72057594037927936 % 256 + 192, n / 281474976710656 % 256, n / 1099511627776 % 256, n / 4294967296 % 256, n / 16777216 % 256, n / 65536 % 256, n / 256 % 256, n % 256] := by
  show wide n (vtop n) = _
  rw [show vtop n = 3 by unfold vtop; rw [if_neg h0, if_neg h1, if_neg h2]]
  show [n / 256 ^ 7 % 256 + 64 * 3, n / 256 ^ 6 % 256, n / 256 ^ 5 % 256, n / 256 ^ 4 % 256, n / 256 ^ 3 % 256, n / 256 ^ 2 % 256, n / 256 ^ 1 % 256, n / 256 ^ 0 % 256] = _
  rw [Nat.pow_zero, Nat.div_one]
/-- Bytes behind bytes of one's own, out of a row that was just laid. -/
theorem append_new (W : World) (B : Nat) (ty : TypeId) (v : Value) (l m : List Nat) (O : OwL B W v l) (hl : l.length + m.length ≤ 1000000) (hB : B ≤ W.heap.size) (w0 : World) (b : Below B w0 W) :
    ∃ v' w', (Builtin.append_ #[23, 23] ty #[v, .slice (some ⟨W.heap.size, 0, none⟩) m.length m.length]).run Try.prog (W.alloc (.cells (Iv .u8 (NI m)) 5)) = .ok v' w' ∧ OwL B w' v' (l ++ m) ∧ Below B w0 w' := by
  have b1 := (Below.refl W.heap.size W).alloc (Nat.le_refl _) (.cells (Iv .u8 (NI m)) 5)
  have O1 := O.below b1
  have A : BA (W.alloc (.cells (Iv .u8 (NI m)) 5)) W.heap.size 0 m := BA.of_blk (Blk.new W 5 (Iv .u8 (NI m)))
  obtain ⟨v', w', h1, h2, h3, h4⟩ := append_ba B _ ty v l m O1 W.heap.size 0 m.length A (by omega) (by have := b1.size; omega)
  exact ⟨v', w', h1, h2, below_grown' (b.trans (b1.mono hB)) h3 (fun k hk => (O1.lt k hk).1) (by have := b1.size; omega)⟩
set_option maxHeartbeats 4000000 in
set_option maxRecDepth 100000 in
theorem rput_any (b : List Nat) (n : Nat) (hn : n < 4611686018427387904) (hl : b.length ≤ 100000) (bv : Value) (w : World) (hb : SB w bv b) :
    Calls Try.prog 38 #[bv, .int .u64 (n : Int)] w fun e w' => ∃ v, e = .returned v ∧ OwL w.heap.size w' v (b ++ vput n) ∧ Below w.heap.size w w' := by
  have b0 := (Below.refl w.heap.size w).alloc (Nat.le_refl _) (.cells #[] 5)
  have o0 := OwL.new w.heap.size w [] (Nat.le_refl _) (Nat.zero_le _)
  obtain ⟨v1, w1, hr1, O1, g1, _⟩ := append_sb w.heap.size _ 23 _ bv [] b o0 (hb.below b0) (by simp only [List.length_nil]; omega) b0.size
  rw [List.nil_append] at O1
  have b1 := below_grown' b0 g1 (fun j e => by have e' := Option.some.inj e; dsimp only at e'; omega) b0.size
  clear g1 o0 b0
  go_enter Try.func38, Try.ntmps38
  go_upto_region 1 with fail
  rename_i aK
  refine wp_region_seq ?_
  refine wpSeq_wp rfl (wp_build_run _ rfl _ _ (run_buildSlice_none _) ?_)
  simp only [AP]
  refine wpSeq_yield (S := fun _ => True) (yieldsIf_move rfl _ rfl (bv) rfl) trivial ?_
  simp only [AP]
  refine wpSeq_wp rfl (wp_append_run _ _ _ _ rfl _ _ rfl rfl v1 w1 hr1 ?_)
  simp only [AP]
  refine wpSeq_yield (S := fun _ => True) (yieldsIf_assign rfl _ rfl (v1) rfl) trivial ?_
  simp only [AP]
  refine wpSeq_nil ?_
  refine aK _ _ ?_
  clear aK hr1
  by_cases h0 : n < 64
  · have g0 : (n : Int) < 64 := by omega
    obtain ⟨y0, hy0⟩ : ∃ y, y = n % 256 := ⟨_, rfl⟩
    have fy0 : IntKind.u8.wrap (n : Int) = (y0 : Int) := by rw [IntKind.wrap_u8]; omega
    have ev : vput n = [y0] := by
      rw [vput0 n h0, hy0]
    have EV := Lib.hid ev
    clear ev hy0
    obtain ⟨v2, w2, hr2, O2, b2⟩ := append_new w1 w.heap.size 23 v1 b [y0] O1 (by simp only [List.length_cons, List.length_nil]; omega) b1.size w b1
    go_upto_region 3 with fail
    rename_i aK
    refine wp_region_seq ?_
    refine wpSeq_yield (S := fun _ => True) (yieldsIf_move rfl _ rfl (v1) rfl) trivial ?_
    simp only [AP]
    refine wpSeq_yield (S := fun _ => True) (yieldsIf_move rfl _ rfl (.int .u64 (n : Int)) rfl) trivial ?_
    simp only [AP]
    refine wpSeq_yield (S := fun _ => True) (v := .int .u8 (y0 : Int)) (Or.inl ⟨by rfl, fun w' hw' => by go_simp⟩) trivial ?_
    simp only [AP]
    refine wpSeq_wp rfl ?_
    unfold Oper.wp execOp
    go_simp
    refine wpSeq_wp rfl (wp_append_run _ _ _ _ rfl _ _ rfl rfl v2 w2 hr2 ?_)
    simp only [AP]
    refine wpSeq_yield (S := fun _ => True) (yieldsIf_assign rfl _ rfl (v2) rfl) trivial ?_
    simp only [AP]
    refine wpSeq_nil ?_
    refine aK _ _ ?_
    clear aK hr2 fy0
    go_wp2
    go_ret
    exact ⟨v2, rfl, by rw [EV.out]; exact O2, b2⟩
  · have g0 : ¬ (n : Int) < 64 := by omega
    by_cases h1 : n < 16384
    · have g1 : (n : Int) < 16384 := by omega
      obtain ⟨z0, hz0⟩ : ∃ z, z = n / 256 := ⟨_, rfl⟩
      obtain ⟨y0, hy0⟩ : ∃ y, y = z0 % 256 := ⟨_, rfl⟩
      have fz0 : (n : Int) / 256 = (z0 : Int) := by omega
      have fy0 : IntKind.u8.wrap (z0 : Int) = (y0 : Int) := by rw [IntKind.wrap_u8]; omega
      obtain ⟨y1, hy1⟩ : ∃ y, y = n % 256 := ⟨_, rfl⟩
      have fy1 : IntKind.u8.wrap (n : Int) = (y1 : Int) := by rw [IntKind.wrap_u8]; omega
      obtain ⟨x0, hx0⟩ : ∃ x, x = y0 + 64 := ⟨_, rfl⟩
      have fx0 : IntKind.u8.wrap ((y0 : Int) + 64) = (x0 : Int) := by rw [IntKind.wrap_u8]; omega
      have ev : vput n = [x0, y1] := by
        rw [vput1 n h0 h1, hx0, hy0, hz0, hy1]
      have EV := Lib.hid ev
      clear ev hx0 hy0 hz0 hy1
      obtain ⟨v2, w2, hr2, O2, b2⟩ := append_new w1 w.heap.size 23 v1 b [x0, y1] O1 (by simp only [List.length_cons, List.length_nil]; omega) b1.size w b1
      go_upto_region 5 with fail
      rename_i aK
      refine wp_region_seq ?_
      refine wpSeq_yield (S := fun _ => True) (yieldsIf_move rfl _ rfl (v1) rfl) trivial ?_
      simp only [AP]
      refine wpSeq_yield (S := fun _ => True) (yieldsIf_move rfl _ rfl (.int .u64 (n : Int)) rfl) trivial ?_
      simp only [AP]
      refine wpSeq_yield (S := fun _ => True) (v := .int .u64 (z0 : Int)) (Or.inl ⟨by rfl, fun w' hw' => by go_simp⟩) trivial ?_
      simp only [AP]
      refine wpSeq_yield (S := fun _ => True) (v := .int .u8 (y0 : Int)) (Or.inl ⟨by rfl, fun w' hw' => by go_simp⟩) trivial ?_
      simp only [AP]
      refine wpSeq_yield (S := fun _ => True) (v := .int .u8 (x0 : Int)) (Or.inl ⟨by rfl, fun w' hw' => by go_simp⟩) trivial ?_
      simp only [AP]
      refine wpSeq_yield (S := fun _ => True) (yieldsIf_move rfl _ rfl (.int .u64 (n : Int)) rfl) trivial ?_
      simp only [AP]
      refine wpSeq_yield (S := fun _ => True) (v := .int .u8 (y1 : Int)) (Or.inl ⟨by rfl, fun w' hw' => by go_simp⟩) trivial ?_
      simp only [AP]
      refine wpSeq_wp rfl ?_
      unfold Oper.wp execOp
      go_simp
      refine wpSeq_wp rfl (wp_append_run _ _ _ _ rfl _ _ rfl rfl v2 w2 hr2 ?_)
      simp only [AP]
      refine wpSeq_yield (S := fun _ => True) (yieldsIf_assign rfl _ rfl (v2) rfl) trivial ?_
      simp only [AP]
      refine wpSeq_nil ?_
      refine aK _ _ ?_
      clear aK hr2 fy0 fy1
      go_wp2
      go_ret
      exact ⟨v2, rfl, by rw [EV.out]; exact O2, b2⟩
    · have g1 : ¬ (n : Int) < 16384 := by omega
      by_cases h2 : n < 1073741824
      · have g2 : (n : Int) < 1073741824 := by omega
        obtain ⟨z0, hz0⟩ : ∃ z, z = n / 16777216 := ⟨_, rfl⟩
        obtain ⟨y0, hy0⟩ : ∃ y, y = z0 % 256 := ⟨_, rfl⟩
        have fz0 : (n : Int) / 16777216 = (z0 : Int) := by omega
        have fy0 : IntKind.u8.wrap (z0 : Int) = (y0 : Int) := by rw [IntKind.wrap_u8]; omega
        obtain ⟨z1, hz1⟩ : ∃ z, z = n / 65536 := ⟨_, rfl⟩
        obtain ⟨y1, hy1⟩ : ∃ y, y = z1 % 256 := ⟨_, rfl⟩
        have fz1 : (n : Int) / 65536 = (z1 : Int) := by omega
        have fy1 : IntKind.u8.wrap (z1 : Int) = (y1 : Int) := by rw [IntKind.wrap_u8]; omega
        obtain ⟨z2, hz2⟩ : ∃ z, z = n / 256 := ⟨_, rfl⟩
        obtain ⟨y2, hy2⟩ : ∃ y, y = z2 % 256 := ⟨_, rfl⟩
        have fz2 : (n : Int) / 256 = (z2 : Int) := by omega
        have fy2 : IntKind.u8.wrap (z2 : Int) = (y2 : Int) := by rw [IntKind.wrap_u8]; omega
        obtain ⟨y3, hy3⟩ : ∃ y, y = n % 256 := ⟨_, rfl⟩
        have fy3 : IntKind.u8.wrap (n : Int) = (y3 : Int) := by rw [IntKind.wrap_u8]; omega
        obtain ⟨x0, hx0⟩ : ∃ x, x = y0 + 128 := ⟨_, rfl⟩
        have fx0 : IntKind.u8.wrap ((y0 : Int) + 128) = (x0 : Int) := by rw [IntKind.wrap_u8]; omega
        have ev : vput n = [x0, y1, y2, y3] := by
          rw [vput2 n h0 h1 h2, hx0, hy0, hz0, hy1, hz1, hy2, hz2, hy3]
        have EV := Lib.hid ev
        clear ev hx0 hy0 hz0 hy1 hz1 hy2 hz2 hy3
        obtain ⟨v2, w2, hr2, O2, b2⟩ := append_new w1 w.heap.size 23 v1 b [x0, y1, y2, y3] O1 (by simp only [List.length_cons, List.length_nil]; omega) b1.size w b1
        go_upto_region 7 with fail
        rename_i aK
        refine wp_region_seq ?_
        refine wpSeq_yield (S := fun _ => True) (yieldsIf_move rfl _ rfl (v1) rfl) trivial ?_
        simp only [AP]
        refine wpSeq_yield (S := fun _ => True) (yieldsIf_move rfl _ rfl (.int .u64 (n : Int)) rfl) trivial ?_
        simp only [AP]
        refine wpSeq_yield (S := fun _ => True) (v := .int .u64 (z0 : Int)) (Or.inl ⟨by rfl, fun w' hw' => by go_simp⟩) trivial ?_
        simp only [AP]
        refine wpSeq_yield (S := fun _ => True) (v := .int .u8 (y0 : Int)) (Or.inl ⟨by rfl, fun w' hw' => by go_simp⟩) trivial ?_
        simp only [AP]
        refine wpSeq_yield (S := fun _ => True) (v := .int .u8 (x0 : Int)) (Or.inl ⟨by rfl, fun w' hw' => by go_simp⟩) trivial ?_
        simp only [AP]
        refine wpSeq_yield (S := fun _ => True) (yieldsIf_move rfl _ rfl (.int .u64 (n : Int)) rfl) trivial ?_
        simp only [AP]
        refine wpSeq_yield (S := fun _ => True) (v := .int .u64 (z1 : Int)) (Or.inl ⟨by rfl, fun w' hw' => by go_simp⟩) trivial ?_
        simp only [AP]
        refine wpSeq_yield (S := fun _ => True) (v := .int .u8 (y1 : Int)) (Or.inl ⟨by rfl, fun w' hw' => by go_simp⟩) trivial ?_
        simp only [AP]
        refine wpSeq_yield (S := fun _ => True) (yieldsIf_move rfl _ rfl (.int .u64 (n : Int)) rfl) trivial ?_
        simp only [AP]
        refine wpSeq_yield (S := fun _ => True) (v := .int .u64 (z2 : Int)) (Or.inl ⟨by rfl, fun w' hw' => by go_simp⟩) trivial ?_
        simp only [AP]
        refine wpSeq_yield (S := fun _ => True) (v := .int .u8 (y2 : Int)) (Or.inl ⟨by rfl, fun w' hw' => by go_simp⟩) trivial ?_
        simp only [AP]
        refine wpSeq_yield (S := fun _ => True) (yieldsIf_move rfl _ rfl (.int .u64 (n : Int)) rfl) trivial ?_
        simp only [AP]
        refine wpSeq_yield (S := fun _ => True) (v := .int .u8 (y3 : Int)) (Or.inl ⟨by rfl, fun w' hw' => by go_simp⟩) trivial ?_
        simp only [AP]
        refine wpSeq_wp rfl ?_
        unfold Oper.wp execOp
        go_simp
        refine wpSeq_wp rfl (wp_append_run _ _ _ _ rfl _ _ rfl rfl v2 w2 hr2 ?_)
        simp only [AP]
        refine wpSeq_yield (S := fun _ => True) (yieldsIf_assign rfl _ rfl (v2) rfl) trivial ?_
        simp only [AP]
        refine wpSeq_nil ?_
        refine aK _ _ ?_
        clear aK hr2 fy0 fy1 fy2 fy3
        go_wp2
        go_ret
        exact ⟨v2, rfl, by rw [EV.out]; exact O2, b2⟩
      · have g2 : ¬ (n : Int) < 1073741824 := by omega
        obtain ⟨z0, hz0⟩ : ∃ z, z = n / 72057594037927936 := ⟨_, rfl⟩
        obtain ⟨y0, hy0⟩ : ∃ y, y = z0 % 256 := ⟨_, rfl⟩
        have fz0 : (n : Int) / 72057594037927936 = (z0 : Int) := by omega
        have fy0 : IntKind.u8.wrap (z0 : Int) = (y0 : Int) := by rw [IntKind.wrap_u8]; omega
        obtain ⟨z1, hz1⟩ : ∃ z, z = n / 281474976710656 := ⟨_, rfl⟩
        obtain ⟨y1, hy1⟩ : ∃ y, y = z1 % 256 := ⟨_, rfl⟩
        have fz1 : (n : Int) / 281474976710656 = (z1 : Int) := by omega
        have fy1 : IntKind.u8.wrap (z1 : Int) = (y1 : Int) := by rw [IntKind.wrap_u8]; omega
        obtain ⟨z2, hz2⟩ : ∃ z, z = n / 1099511627776 := ⟨_, rfl⟩
        obtain ⟨y2, hy2⟩ : ∃ y, y = z2 % 256 := ⟨_, rfl⟩
        have fz2 : (n : Int) / 1099511627776 = (z2 : Int) := by omega
        have fy2 : IntKind.u8.wrap (z2 : Int) = (y2 : Int) := by rw [IntKind.wrap_u8]; omega
        obtain ⟨z3, hz3⟩ : ∃ z, z = n / 4294967296 := ⟨_, rfl⟩
        obtain ⟨y3, hy3⟩ : ∃ y, y = z3 % 256 := ⟨_, rfl⟩
        have fz3 : (n : Int) / 4294967296 = (z3 : Int) := by omega
        have fy3 : IntKind.u8.wrap (z3 : Int) = (y3 : Int) := by rw [IntKind.wrap_u8]; omega
        obtain ⟨z4, hz4⟩ : ∃ z, z = n / 16777216 := ⟨_, rfl⟩
        obtain ⟨y4, hy4⟩ : ∃ y, y = z4 % 256 := ⟨_, rfl⟩
        have fz4 : (n : Int) / 16777216 = (z4 : Int) := by omega
        have fy4 : IntKind.u8.wrap (z4 : Int) = (y4 : Int) := by rw [IntKind.wrap_u8]; omega
        obtain ⟨z5, hz5⟩ : ∃ z, z = n / 65536 := ⟨_, rfl⟩
        obtain ⟨y5, hy5⟩ : ∃ y, y = z5 % 256 := ⟨_, rfl⟩
        have fz5 : (n : Int) / 65536 = (z5 : Int) := by omega
        have fy5 : IntKind.u8.wrap (z5 : Int) = (y5 : Int) := by rw [IntKind.wrap_u8]; omega
        obtain ⟨z6, hz6⟩ : ∃ z, z = n / 256 := ⟨_, rfl⟩
        obtain ⟨y6, hy6⟩ : ∃ y, y = z6 % 256 := ⟨_, rfl⟩
        have fz6 : (n : Int) / 256 = (z6 : Int) := by omega
        have fy6 : IntKind.u8.wrap (z6 : Int) = (y6 : Int) := by rw [IntKind.wrap_u8]; omega
        obtain ⟨y7, hy7⟩ : ∃ y, y = n % 256 := ⟨_, rfl⟩
        have fy7 : IntKind.u8.wrap (n : Int) = (y7 : Int) := by rw [IntKind.wrap_u8]; omega
        obtain ⟨x0, hx0⟩ : ∃ x, x = y0 + 192 := ⟨_, rfl⟩
        have fx0 : IntKind.u8.wrap ((y0 : Int) + 192) = (x0 : Int) := by rw [IntKind.wrap_u8]; omega
        have ev : vput n = [x0, y1, y2, y3, y4, y5, y6, y7] := by
          rw [vput3 n h0 h1 h2, hx0, hy0, hz0, hy1, hz1, hy2, hz2, hy3, hz3, hy4, hz4, hy5, hz5, hy6, hz6, hy7]
        have EV := Lib.hid ev
        clear ev hx0 hy0 hz0 hy1 hz1 hy2 hz2 hy3 hz3 hy4 hz4 hy5 hz5 hy6 hz6 hy7
        obtain ⟨v2, w2, hr2, O2, b2⟩ := append_new w1 w.heap.size 23 v1 b [x0, y1, y2, y3, y4, y5, y6, y7] O1 (by simp only [List.length_cons, List.length_nil]; omega) b1.size w b1
        go_upto_region 8 with fail
        rename_i aK
        refine wp_region_seq ?_
        refine wpSeq_yield (S := fun _ => True) (yieldsIf_move rfl _ rfl (v1) rfl) trivial ?_
        simp only [AP]
        refine wpSeq_yield (S := fun _ => True) (yieldsIf_move rfl _ rfl (.int .u64 (n : Int)) rfl) trivial ?_
        simp only [AP]
        refine wpSeq_yield (S := fun _ => True) (v := .int .u64 (z0 : Int)) (Or.inl ⟨by rfl, fun w' hw' => by go_simp⟩) trivial ?_
        simp only [AP]
        refine wpSeq_yield (S := fun _ => True) (v := .int .u8 (y0 : Int)) (Or.inl ⟨by rfl, fun w' hw' => by go_simp⟩) trivial ?_
        simp only [AP]
        refine wpSeq_yield (S := fun _ => True) (v := .int .u8 (x0 : Int)) (Or.inl ⟨by rfl, fun w' hw' => by go_simp⟩) trivial ?_
        simp only [AP]
        refine wpSeq_yield (S := fun _ => True) (yieldsIf_move rfl _ rfl (.int .u64 (n : Int)) rfl) trivial ?_
        simp only [AP]
        refine wpSeq_yield (S := fun _ => True) (v := .int .u64 (z1 : Int)) (Or.inl ⟨by rfl, fun w' hw' => by go_simp⟩) trivial ?_
        simp only [AP]
        refine wpSeq_yield (S := fun _ => True) (v := .int .u8 (y1 : Int)) (Or.inl ⟨by rfl, fun w' hw' => by go_simp⟩) trivial ?_
        simp only [AP]
        refine wpSeq_yield (S := fun _ => True) (yieldsIf_move rfl _ rfl (.int .u64 (n : Int)) rfl) trivial ?_
        simp only [AP]
        refine wpSeq_yield (S := fun _ => True) (v := .int .u64 (z2 : Int)) (Or.inl ⟨by rfl, fun w' hw' => by go_simp⟩) trivial ?_
        simp only [AP]
        refine wpSeq_yield (S := fun _ => True) (v := .int .u8 (y2 : Int)) (Or.inl ⟨by rfl, fun w' hw' => by go_simp⟩) trivial ?_
        simp only [AP]
        refine wpSeq_yield (S := fun _ => True) (yieldsIf_move rfl _ rfl (.int .u64 (n : Int)) rfl) trivial ?_
        simp only [AP]
        refine wpSeq_yield (S := fun _ => True) (v := .int .u64 (z3 : Int)) (Or.inl ⟨by rfl, fun w' hw' => by go_simp⟩) trivial ?_
        simp only [AP]
        refine wpSeq_yield (S := fun _ => True) (v := .int .u8 (y3 : Int)) (Or.inl ⟨by rfl, fun w' hw' => by go_simp⟩) trivial ?_
        simp only [AP]
        refine wpSeq_yield (S := fun _ => True) (yieldsIf_move rfl _ rfl (.int .u64 (n : Int)) rfl) trivial ?_
        simp only [AP]
        refine wpSeq_yield (S := fun _ => True) (v := .int .u64 (z4 : Int)) (Or.inl ⟨by rfl, fun w' hw' => by go_simp⟩) trivial ?_
        simp only [AP]
        refine wpSeq_yield (S := fun _ => True) (v := .int .u8 (y4 : Int)) (Or.inl ⟨by rfl, fun w' hw' => by go_simp⟩) trivial ?_
        simp only [AP]
        refine wpSeq_yield (S := fun _ => True) (yieldsIf_move rfl _ rfl (.int .u64 (n : Int)) rfl) trivial ?_
        simp only [AP]
        refine wpSeq_yield (S := fun _ => True) (v := .int .u64 (z5 : Int)) (Or.inl ⟨by rfl, fun w' hw' => by go_simp⟩) trivial ?_
        simp only [AP]
        refine wpSeq_yield (S := fun _ => True) (v := .int .u8 (y5 : Int)) (Or.inl ⟨by rfl, fun w' hw' => by go_simp⟩) trivial ?_
        simp only [AP]
        refine wpSeq_yield (S := fun _ => True) (yieldsIf_move rfl _ rfl (.int .u64 (n : Int)) rfl) trivial ?_
        simp only [AP]
        refine wpSeq_yield (S := fun _ => True) (v := .int .u64 (z6 : Int)) (Or.inl ⟨by rfl, fun w' hw' => by go_simp⟩) trivial ?_
        simp only [AP]
        refine wpSeq_yield (S := fun _ => True) (v := .int .u8 (y6 : Int)) (Or.inl ⟨by rfl, fun w' hw' => by go_simp⟩) trivial ?_
        simp only [AP]
        refine wpSeq_yield (S := fun _ => True) (yieldsIf_move rfl _ rfl (.int .u64 (n : Int)) rfl) trivial ?_
        simp only [AP]
        refine wpSeq_yield (S := fun _ => True) (v := .int .u8 (y7 : Int)) (Or.inl ⟨by rfl, fun w' hw' => by go_simp⟩) trivial ?_
        simp only [AP]
        refine wpSeq_wp rfl ?_
        unfold Oper.wp execOp
        go_simp
        refine wpSeq_wp rfl (wp_append_run _ _ _ _ rfl _ _ rfl rfl v2 w2 hr2 ?_)
        simp only [AP]
        refine wpSeq_yield (S := fun _ => True) (yieldsIf_assign rfl _ rfl (v2) rfl) trivial ?_
        simp only [AP]
        refine wpSeq_nil ?_
        refine aK _ _ ?_
        clear aK hr2 fy0 fy1 fy2 fy3 fy4 fy5 fy6 fy7
        go_wp2
        go_ret
        exact ⟨v2, rfl, by rw [EV.out]; exact O2, b2⟩
end Go.Proofs.Ytdlhclakdllogaa
