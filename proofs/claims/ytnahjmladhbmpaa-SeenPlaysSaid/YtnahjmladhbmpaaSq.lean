/- SeenGaps: numbers with a gap between each. -/
import Derived.Test.YtnahjmladhbmpaaSp
namespace Go.Proofs.Ytnahjmladhbmpaa
open Go.RowKit

set_option maxHeartbeats 8000000 in
set_option maxRecDepth 100000 in
theorem gaps_law (n f : Nat) (hn : n < 256) (hf : f < 4294967296) (W : World) :
    Calls Try.prog 4 #[.int .u8 (n : Int), .int .u32 (f : Int)] W fun e w' => e = .returned (.bool true) ∧ Below W.heap.size W w' := by
  have AW := awake_c W
  have d1 : IntKind.u64.wrap (n : Int) = (n : Int) := wrap_u64 _ (by omega)
  have d2 : IntKind.u64.wrap (f : Int) = (f : Int) := wrap_u64 _ (by omega)
  have d3 : IntKind.i64.wrap (n : Int) = (n : Int) := by
    simp [IntKind.wrap, IntKind.bits, IntKind.signed]
    omega
  have HN := Lib.hid hn
  have HF := Lib.hid hf
  clear hn hf
  go_enter Try.func4, Try.ntmps4
  go_wp2_with fail
  refine AW.mono ?_
  rintro e w0 ⟨rfl, bw⟩
  clear AW
  go_upto_region 3 with fail
  rename_i aK
  refine wp_region_seq ?_
  refine wpSeq_alloc 29 zeroC rfl (fun W => by go_simp; rfl) ?_
  simp only [AP]
  refine wpSeq_nil ?_
  refine aK _ _ ?_
  clear aK
  have b0 := bw.alloc bw.size (.cells zeroC 29)
  have M0 := sm_new w0
  have hgB := Lib.hid bw.size
  generalize w0.alloc (.cells zeroC 29) = w1 at *
  generalize w0.heap.size = g at *
  clear bw
  go_upto_region 5 with fail
  go_loopw [15] (fun t wr => ∃ i : Nat, i ≤ n ∧ t = .int .u64 (i : Int) ∧ SM wr g (gapL f i) (gapF f i) ∧ Below W.heap.size W wr) (fun t _ => (n - intOf t).toNat)
  case atStart => exact ⟨0, by omega, rfl, M0, b0⟩
  case round =>
    obtain ⟨i, hi, rfl, hM, hB⟩ := hrel
    clear M0 b0
    by_cases him : i = n
    · subst him
      have x1 : ¬ (i : Int) < (i : Int) := by omega
      have hSn := gap_sn f i HF.out (by have := HN.out; omega)
      have CS := spans_c g _ _ wr hM
      go_wp2_with fail
      refine CS.mono ?_
      rintro e w6 ⟨v, rfl, OS, b6⟩
      clear CS
      have M6 := hM.below b6 hM.lt
      have B6 := hB.trans (b6.mono hB.size)
      have SAv := Lib.hid OS.sa
      obtain ⟨pv, cv, rfl⟩ := OS.shape
      have HL := Lib.hid (gapL_length f i)
      have HSN := Lib.hid hSn
      clear OS hM hB b6 hSn
      generalize hnn : (gapL f i).length = nl at *
      have HNL := Lib.hid hnn
      clear hnn
      go_upto_region 12 with fail
      go_loopw [29] (fun t wr => ∃ k : Nat, k ≤ nl ∧ t = .int .i64 (k : Int) ∧ SM wr g (gapL f i) (gapF f i) ∧ Below W.heap.size W wr ∧ Below w6.heap.size w6 wr) (fun t _ => (nl - intOf t).toNat)
      case atStart => exact ⟨0, by omega, rfl, M6, B6, Below.refl _ _⟩
      case round =>
        obtain ⟨k, hk, rfl, hM2, hB2, hC2⟩ := hrel
        clear M6 B6
        by_cases hkn : k = nl
        · have x2 : ¬ (k : Int) < (nl : Int) := by omega
          clear hkn hC2 SAv
          go_upto_region 18 with fail
          go_loopw [57] (fun t wr => ∃ j : Nat, j ≤ i ∧ t = .int .u64 (j : Int) ∧ SM wr g (gapL f i) (gapF f i) ∧ Below W.heap.size W wr) (fun t _ => (i - intOf t).toNat)
          case atStart => exact ⟨0, by omega, rfl, hM2, hB2⟩
          case round =>
            obtain ⟨j, hj, rfl, hM3, hB3⟩ := hrel
            clear hM2 hB2
            by_cases hji : j = i
            · subst hji
              have x3 : ¬ (j : Int) < (j : Int) := by omega
              have hbound := HN.out
              have hl := HL.out
              have e9 : ((nl : Int) == min (j : Int) 32) = true := by
                rw [beq_iff_eq]
                omega
              have x4 : (nl : Int) = min (j : Int) 32 := by omega
              have HX := Lib.hid x4
              clear hl hbound e9 x4
              go_wp2
              all_goals
                go_ret
                refine ⟨?_, hB3⟩
                have hx := HX.out
                show Ending.returned (Value.bool _) = _
                congr 2
                rw [beq_iff_eq]
                omega
            · have hji' : j < i := by omega
              have x3 : (j : Int) < (i : Int) := by omega
              have hbound := HN.out
              have hfb := HF.out
              obtain ⟨ho, hp⟩ := gap_no f i j hfb (by omega) hji'
              have PC := put_is g (f + 2 * j) _ _ HSN.out false _ _ ho hp wr hM3 W.heap.size W hB3 hgB.out ((f : Int) + 2 * (j : Int)) (by omega)
              have q1 : IntKind.u64.wrap (2 * (j : Int)) = 2 * (j : Int) := wrap_u64' _ (by omega) (by omega)
              have q2 : IntKind.u64.wrap ((f : Int) + 2 * (j : Int)) = (f : Int) + 2 * (j : Int) := wrap_u64' _ (by omega) (by omega)
              have q3 : IntKind.u64.wrap ((j : Int) + 1) = ((j + 1 : Nat) : Int) := by
                rw [wrap_u64' _ (by omega) (by omega)]
                omega
              have ME := Lib.hid (show ((i : Int) - ((j + 1 : Nat) : Int)).toNat < ((i : Int) - (j : Int)).toNat by omega)
              clear ho hp hM3 hB3 hbound hfb hji
              go_wp2_with fail
              refine PC.mono ?_
              rintro e w7 ⟨rfl, M7, B7⟩
              clear PC
              go_wp2
              exact ⟨⟨j + 1, hji', rfl, M7, B7⟩, ME.out⟩
        · have x2 : (k : Int) < (nl : Int) := by omega
          have hkl : k < (gapL f i).length := by rw [HNL.out]; omega
          have hki : k < i := by have := HL.out; omega
          obtain ⟨gs, o, rfl, hA⟩ : ∃ g o, pv = some ⟨g, o, none⟩ ∧ PA w6 g o (gapL f i) := by
            have hs := SAv.out.at_
            rcases hs with h0 | h0
            · rw [h0] at hk; omega
            · exact h0
          have hA2 := hA.below hC2
          have c1 := hA2.lo k hkl
          have c2 := hA2.hi k hkl
          rw [gapL_get f i k (by rw [← gapL_length f i]; exact hkl)] at c1 c2
          have hbound := HN.out
          have hfb := HF.out
          have xk0 : (0 : Int) ≤ (k : Int) := by omega
          have q1 : IntKind.u64.wrap ((i : Int) - 1) = (i : Int) - 1 := wrap_u64' _ (by omega) (by omega)
          have q2 : IntKind.u64.wrap (k : Int) = (k : Int) := wrap_u64 _ (by omega)
          have q3 : IntKind.u64.wrap ((i : Int) - 1 - (k : Int)) = ((i - 1 - k : Nat) : Int) := by
            rw [wrap_u64' _ (by omega) (by omega)]
            omega
          have hq := Lib.hid (show i - 1 - k < 256 by omega)
          have ME := Lib.hid (show ((nl : Int) - ((k + 1 : Nat) : Int)).toNat < ((nl : Int) - (k : Int)).toNat by omega)
          have hk1 := Lib.hid (show k + 1 ≤ nl by omega)
          have q4 : IntKind.u64.wrap (2 * ((i - 1 - k : Nat) : Int)) = 2 * ((i - 1 - k : Nat) : Int) := wrap_u64' _ (by omega) (by omega)
          have q5 : IntKind.u64.wrap ((f : Int) + 2 * ((i - 1 - k : Nat) : Int)) = (f : Int) + 2 * ((i - 1 - k : Nat) : Int) := wrap_u64' _ (by omega) (by omega)
          have hnb : nl ≤ 32 := by have := HL.out; omega
          clear hkn hkl hki hbound hfb hA hA2
          generalize i - 1 - k = q at *
          dsimp only at c1 c2
          have b9 := Below.refl wr.heap.size wr
          have R := Lib.hid (show ∀ w', Below wr.heap.size wr w' → SM w' g (gapL f i) (gapF f i) ∧ Below W.heap.size W w' ∧ Below w6.heap.size w6 w' from fun w' hb => ⟨hM2.below hb hM2.lt, hB2.trans (hb.mono hB2.size), hC2.trans (hb.mono hC2.size)⟩)
          clear hM2 hB2 hC2
          have b10 := b9.alloc (Nat.le_refl _) (.cells #[.int .u64 ((f : Int) + 2 * (q : Int)), .int .u64 ((f : Int) + 2 * (q : Int))] 26)
          have R2 := Lib.hid (R.out _ b10)
          clear b9 b10 R
          go_wp2
          exact ⟨⟨k + 1, hk1.out, rfl, R2.out⟩, ME.out⟩
    · have x1 : (i : Int) < (n : Int) := by omega
      have him' : i < n := by omega
      have hk := HN.out
      have hF := HF.out
      have hSn := gap_sn f i hF (by omega)
      obtain ⟨ho, hp⟩ := gap_put f i hF (by omega) hSn
      have PC := put_is g (f + 2 * i) _ _ hSn true _ _ ho hp wr hM W.heap.size W hB hgB.out ((f : Int) + 2 * (i : Int)) (by omega)
      have q1 : IntKind.u64.wrap (2 * (i : Int)) = 2 * (i : Int) := wrap_u64' _ (by omega) (by omega)
      have q2 : IntKind.u64.wrap ((f : Int) + 2 * (i : Int)) = (f : Int) + 2 * (i : Int) := wrap_u64' _ (by omega) (by omega)
      have q3 : IntKind.u64.wrap ((i : Int) + 1) = ((i + 1 : Nat) : Int) := by
        rw [wrap_u64' _ (by omega) (by omega)]
        omega
      have ME := Lib.hid (show ((n : Int) - ((i + 1 : Nat) : Int)).toNat < ((n : Int) - (i : Int)).toNat by omega)
      clear hSn ho hp hM hB hk hF him
      go_wp2_with fail
      refine PC.mono ?_
      rintro e w6 ⟨rfl, M6, B6⟩
      clear PC
      go_wp2
      exact ⟨⟨i + 1, him', rfl, M6, B6⟩, ME.out⟩
end Go.Proofs.Ytnahjmladhbmpaa
