/- SeenRow: numbers in a row. -/
import Derived.Test.YtnahjmladhbmpaaSm
import Derived.Test.YtnahjmladhbmpaaSo
namespace Go.Proofs.Ytnahjmladhbmpaa
open Go.RowKit

theorem tmod_nat (a b : Nat) : ((a : Int)).tmod (b : Int) = ((a % b : Nat) : Int) := by
  rw [Int.tmod_eq_emod_of_nonneg (by omega)]
  rfl
theorem tdiv_nat (a b : Nat) : ((a : Int)).tdiv (b : Int) = ((a / b : Nat) : Int) := by
  rw [Int.tdiv_eq_ediv_of_nonneg (by omega)]
  rfl
theorem wrap_u64 (a : Nat) (h : a < 18446744073709551616) : IntKind.u64.wrap (a : Int) = (a : Int) := by
  simp [IntKind.wrap, IntKind.bits, IntKind.signed]
  omega
theorem wrap_u64' (x : Int) (h0 : 0 ≤ x) (h : x < 18446744073709551616) : IntKind.u64.wrap x = x := by
  simp [IntKind.wrap, IntKind.bits, IntKind.signed]
  omega
set_option maxHeartbeats 8000000 in
set_option maxRecDepth 100000 in
theorem row_law (n f s : Nat) (_hn : n < 256) (_hf : f < 18446744073709551616) (hs : s < 256) (W : World) :
    Calls Try.prog 7 #[.int .u8 (n : Int), .int .u64 (f : Int), .int .u8 (s : Int)] W fun e w' => e = .returned (.bool true) ∧ Below W.heap.size W w' := by
  have AW := awake_c W
  have d1 : ((f : Int)).tmod 2305843009213693952 = ((f % 2305843009213693952 : Nat) : Int) := tmod_nat f 2305843009213693952
  have hF : f % 2305843009213693952 < 2305843009213693952 := Nat.mod_lt _ (by decide)
  generalize f % 2305843009213693952 = F at *
  have d2 : ((n : Int)).tmod 30 = ((n % 30 : Nat) : Int) := tmod_nat n 30
  have hM : n % 30 + 1 ≤ 30 ∧ 0 < n % 30 + 1 := by omega
  have d3 : IntKind.u64.wrap ((n % 30 : Nat) : Int) = ((n % 30 : Nat) : Int) := wrap_u64 _ (by omega)
  have d4 : IntKind.u64.wrap (((n % 30 : Nat) : Int) + 1) = ((n % 30 + 1 : Nat) : Int) := by
    rw [wrap_u64' _ (by omega) (by omega)]
    omega
  generalize n % 30 + 1 = m at *
  generalize n % 30 = n30 at *
  clear _hn
  have HF := Lib.hid hF
  have HM := Lib.hid hM
  clear hF hM
  go_enter Try.func7, Try.ntmps7
  go_wp2_with fail
  refine AW.mono ?_
  rintro e w0 ⟨rfl, bw⟩
  clear AW
  go_upto_region 4 with fail
  rename_i aK
  refine wp_region_seq ?_
  refine wpSeq_alloc 29 zeroC rfl (fun W => by go_simp; rfl) ?_
  simp only [AP]
  refine wpSeq_nil ?_
  refine aK _ _ ?_
  clear aK
  have b0 := bw.alloc bw.size (.cells zeroC 29)
  have M0 := sm_new w0
  have hgB := Lib.hid bw.size
  generalize w0.alloc (.cells zeroC 29) = w1 at *
  generalize w0.heap.size = g at *
  clear bw
  go_upto_region 7 with fail
  go_loopw [21] (fun t wr => ∃ i : Nat, i ≤ m ∧ t = .int .u64 (i : Int) ∧ SM wr g (rowL F s m i) 0 ∧ Below W.heap.size W wr) (fun t _ => (m - intOf t).toNat)
  case atStart => exact ⟨0, by omega, rfl, M0, b0⟩
  case round =>
    obtain ⟨i, hi, rfl, hM, hB⟩ := hrel
    clear M0 b0
    by_cases him : i = m
    · subst him
      have x1 : ¬ (i : Int) < (i : Int) := by omega
      rw [row_all F s i HF.out HM.out.1 HM.out.2] at hM
      have hSn : Sn [(F, F + i - 1)] 0 := by
        have := (rowL_ok F s i HF.out HM.out.1 i (Nat.le_refl _)).1
        rwa [row_all F s i HF.out HM.out.1 HM.out.2] at this
      have CS := spans_c g 0 _ wr hM
      have CN := fun w h => next_c g 0 _ hSn w h
      go_wp2_with fail
      refine CS.mono ?_
      rintro e w6 ⟨v, rfl, OS, b6⟩
      clear CS
      have M6 := hM.below b6 hM.lt
      rcases OS.row with ⟨_, h0⟩ | ⟨gs, cap, cur, rfl, _, _, _, _, hPA⟩
      · cases h0
      have c1 := hPA.lo 0 (by show 0 < 1; decide)
      have c2 := hPA.hi 0 (by show 0 < 1; decide)
      have b7 := hB.trans (b6.mono hB.size)
      have CN6 := CN w6 M6
      have hq := HM.out
      have hF := HF.out
      have e1 : (([(F, F + i - 1)] : List (Nat × Nat)).getD 0 (0, 0)).1 = F := rfl
      have e2 : (([(F, F + i - 1)] : List (Nat × Nat)).getD 0 (0, 0)).2 = F + i - 1 := rfl
      have e4 : nextS [(F, F + i - 1)] = F + i := by
        show F + i - 1 + 1 = F + i
        omega
      rw [e4] at CN6
      rw [e1] at c1
      rw [e2] at c2
      have e3 : ([(F, F + i - 1)] : List (Nat × Nat)).length = 1 := rfl
      rw [e3]
      have w1' : IntKind.u64.wrap ((F : Int) + (i : Int)) = ((F + i : Nat) : Int) := by
        rw [wrap_u64' _ (by omega) (by omega)]
        omega
      have w2' : IntKind.u64.wrap (((F + i : Nat) : Int) - 1) = ((F + i - 1 : Nat) : Int) := by
        rw [wrap_u64' _ (by omega) (by omega)]
        omega
      clear e1 e2 e3 e4 CN M6 OS hPA hM hq hF hSn
      generalize F + i - 1 = z1 at *
      generalize F + i = z2 at *
      go_wp2_with fail
      refine CN6.mono ?_
      rintro e w7 ⟨rfl, b8⟩
      go_wp2
      go_ret
      exact ⟨rfl, b7.trans (b8.mono b7.size)⟩
    · have x1 : (i : Int) < (m : Int) := by omega
      have him' : i < m := by omega
      obtain ⟨ho, hp⟩ := row_put F s m i HF.out HM.out.1 him'
      have hsn := (rowL_ok F s m HF.out HM.out.1 i hi).1
      have hk := rowK_lt s m i HM.out.2 him'
      have hq := HM.out
      have hF := HF.out
      have KE := Lib.hid (show s % 2 = 0 → rowK s m i = (i + s) % m from fun h => by unfold rowK; rw [if_neg (by omega), if_neg (by omega)])
      have KO0 := Lib.hid (show s % 2 = 1 → i % 2 = 0 → rowK s m i = i / 2 from fun h h' => by unfold rowK; rw [if_neg (by omega), if_pos h])
      have KO1 := Lib.hid (show s % 2 = 1 → i % 2 = 1 → rowK s m i = m - 1 - i / 2 from fun h h' => by unfold rowK; rw [if_pos ⟨h, h'⟩])
      have E5 := Lib.hid (show (m : Int) - 1 - ((i / 2 : Nat) : Int) = ((m - 1 - i / 2 : Nat) : Int) by omega)
      have ME := Lib.hid (show ((m : Int) - ((i + 1 : Nat) : Int)).toNat < ((m : Int) - (i : Int)).toNat by omega)
      have HB := Lib.hid hB
      have PC := put_is g (F + rowK s m i) 0 _ hsn true _ _ ho hp wr hM W.heap.size W hB hgB.out
      have q1 : IntKind.u64.wrap ((i : Int) + (s : Int)) = ((i + s : Nat) : Int) := by
        rw [wrap_u64' _ (by omega) (by omega)]
        omega
      have q0 : IntKind.u64.wrap (s : Int) = (s : Int) := wrap_u64 _ (by omega)
      have q2 : (((i + s : Nat) : Int)).tmod (m : Int) = (((i + s) % m : Nat) : Int) := tmod_nat _ _
      have q3 : ((s : Int)).tmod 2 = ((s % 2 : Nat) : Int) := tmod_nat s 2
      have q4 : ((i : Int)).tmod 2 = ((i % 2 : Nat) : Int) := tmod_nat i 2
      have q5 : ((i : Int)).tdiv 2 = ((i / 2 : Nat) : Int) := tdiv_nat i 2
      have q2e : ((i : Int) + (s : Int)) % (m : Int) = (((i + s) % m : Nat) : Int) := rfl
      have q5e : (i : Int) / 2 = ((i / 2 : Nat) : Int) := rfl
      have q11 : IntKind.u64.wrap ((i / 2 : Nat) : Int) = ((i / 2 : Nat) : Int) := wrap_u64 _ (by omega)
      have q6 : ¬ (m : Int) = 0 := by omega
      have q7 : IntKind.u64.wrap ((F : Int) + ((rowK s m i : Nat) : Int)) = (F : Int) + ((rowK s m i : Nat) : Int) := wrap_u64' _ (by omega) (by omega)
      have q8 : IntKind.u64.wrap ((m : Int) - 1) = (m : Int) - 1 := wrap_u64' _ (by omega) (by omega)
      have q9 : IntKind.u64.wrap ((m : Int) - 1 - ((i / 2 : Nat) : Int)) = (m : Int) - 1 - ((i / 2 : Nat) : Int) := wrap_u64' _ (by omega) (by omega)
      have q10 : IntKind.u64.wrap ((i : Int) + 1) = ((i + 1 : Nat) : Int) := by
        rw [wrap_u64' _ (by omega) (by omega)]
        omega
      clear hsn hk hq hF hM hB ho hp
      rcases Nat.mod_two_eq_zero_or_one s with hs2 | hs2
      · rw [hs2] at q3
        rw [KE.out hs2] at PC q7
        clear hs2 KE KO0 KO1 E5
        generalize (i + s) % m = q at *
        have PC2 := PC _ (Int.natCast_add F q).symm
        clear PC
        go_wp2_with fail
        refine PC2.mono ?_
        rintro e w6 ⟨rfl, M6, B6⟩
        clear PC2
        go_wp2
        exact ⟨⟨i + 1, him', rfl, M6, B6⟩, ME.out⟩
      · rcases Nat.mod_two_eq_zero_or_one i with hi3 | hi3
        · rw [hs2] at q3
          rw [hi3] at q4
          rw [KO0.out hs2 hi3] at PC q7
          clear hs2 hi3 KE KO0 KO1 E5
          generalize (i + s) % m = q' at *
          generalize i / 2 = q at *
          have PC2 := PC _ (Int.natCast_add F q).symm
          clear PC
          go_wp2_with fail
          refine PC2.mono ?_
          rintro e w6 ⟨rfl, M6, B6⟩
          clear PC2
          go_wp2
          exact ⟨⟨i + 1, him', rfl, M6, B6⟩, ME.out⟩
        · rw [hs2] at q3
          rw [hi3] at q4
          rw [KO1.out hs2 hi3] at PC q7
          have e5 := E5.out
          rw [e5] at q9
          clear hs2 hi3 KE KO0 KO1
          generalize (i + s) % m = q' at *
          generalize i / 2 = h2 at *
          generalize m - 1 - h2 = q at *
          have PC2 := PC _ (Int.natCast_add F q).symm
          clear PC
          go_wp2_with fail
          refine PC2.mono ?_
          rintro e w6 ⟨rfl, M6, B6⟩
          clear PC2
          go_wp2
          exact ⟨⟨i + 1, him', rfl, M6, B6⟩, ME.out⟩
end Go.Proofs.Ytnahjmladhbmpaa
