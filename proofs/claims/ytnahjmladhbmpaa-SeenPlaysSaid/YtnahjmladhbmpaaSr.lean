/- Acts in memory; SeenNil. -/
import Derived.Test.YtnahjmladhbmpaaSq
namespace Go.Proofs.Ytnahjmladhbmpaa
open Go.RowKit

/-- Acts in block g from o on. -/
structure AA (w : World) (g o : Nat) (l : List (Nat × Bool)) : Prop where
  n : ∀ (i : Nat) (_ : i < l.length), w.cell? ⟨g, o + i * 2, none⟩ = some (.int .u64 (((l.getD i (0, false)).1 : Nat) : Int))
  raw : ∀ (i : Nat) (_ : i < l.length), w.cell? ⟨g, o + i * 2 + 1, none⟩ = some (.bool (l.getD i (0, false)).2)
  lt : g < w.heap.size
theorem AA.below {w w1 : World} {g o : Nat} {l : List (Nat × Bool)} (h : AA w g o l) (hb : Below w.heap.size w w1) : AA w1 g o l :=
  ⟨fun i hi => (hb.cell (p := ⟨g, o + i * 2, none⟩) h.lt).trans (h.n i hi), fun i hi => (hb.cell (p := ⟨g, o + i * 2 + 1, none⟩) h.lt).trans (h.raw i hi), Nat.lt_of_lt_of_le h.lt hb.size⟩
/-- A slice of acts. -/
def SC (w : World) (v : Value) (l : List (Nat × Bool)) : Prop := ∃ p c, v = .slice p l.length c ∧ l.length ≤ c ∧ (l = [] ∨ ∃ g o, p = some ⟨g, o, none⟩ ∧ AA w g o l)
theorem SC.len {w : World} {p : Option Addr} {n c : Nat} {l : List (Nat × Bool)} (h : SC w (.slice p n c) l) : n = l.length ∧ l.length ≤ c := by
  obtain ⟨q, d, e, hc, h1⟩ := h
  simp only [Value.slice.injEq] at e
  obtain ⟨rfl, rfl, rfl⟩ := e
  exact ⟨rfl, hc⟩
theorem SC.at_ {w : World} {p : Option Addr} {n c : Nat} {l : List (Nat × Bool)} (h : SC w (.slice p n c) l) (hl : 0 < l.length) : ∃ g o, p = some ⟨g, o, none⟩ ∧ AA w g o l := by
  obtain ⟨q, d, e, hc, h1⟩ := h
  simp only [Value.slice.injEq] at e
  obtain ⟨rfl, rfl, rfl⟩ := e
  rcases h1 with h1 | h1
  · rw [h1] at hl
    exact absurd hl (Nat.lt_irrefl 0)
  · exact h1
/-- What is kept behind i acts. -/
def plA (l : List (Nat × Bool)) : Nat → List (Nat × Nat) × Nat
  | 0 => ([], 0)
  | i + 1 => putS (plA l i).1 (plA l i).2 (numA i (l.getD i (0, false)).1 (l.getD i (0, false)).2)
theorem plA_sn (l : List (Nat × Bool)) : ∀ i, Sn (plA l i).1 (plA l i).2
  | 0 => Sn.nil
  | i + 1 => putS_sn (plA_sn l i)
theorem wrap_any (x : Nat) : IntKind.u64.wrap ((x : Int) + 1) = (((x + 1) % 18446744073709551616 : Nat) : Int) := by
  simp [IntKind.wrap, IntKind.bits, IntKind.signed]
theorem OwS.hi_set {B : Nat} {w : World} {g o n c : Nat} {l : List (Nat × Nat)} (h : OwS B w (.slice (some ⟨g, o, none⟩) n c) l) (k x : Nat) (hk : k < l.length) : OwS B (w.setCell ⟨g, k * 2 + 1, none⟩ (.int .u64 (x : Int))) (.slice (some ⟨g, o, none⟩) n c) (l.set k ((l.getD k (0, 0)).1, x)) := by
  obtain ⟨hl, h | ⟨g', cap, cur, e, hB, hg, hn, hc, hcs, ht⟩⟩ := h
  · cases h.1
  · simp only [Value.slice.injEq, Option.some.injEq, Addr.mk.injEq, and_true] at e
    obtain ⟨⟨rfl, rfl⟩, rfl, rfl⟩ := e
    refine ⟨by rw [spC_length], Or.inr ⟨g, c, cur.setIfInBounds (k * 2 + 1) (.int .u64 (x : Int)), by rw [List.length_set], hB, Blk.set hg _ _, by rw [List.length_set]; exact hn, hc, by simpa using hcs, ?_⟩⟩
    rw [List.length_set, ← (spC_set l k x hk).2, ← ht]
    simp [List.take_set]
set_option maxHeartbeats 8000000 in
set_option maxRecDepth 100000 in
theorem nil_law (n : Nat) (acts : List (Nat × Bool)) (ha : ∀ x ∈ acts, x.1 < 18446744073709551616) (p : Option Addr) (c : Nat) (hm : acts.length ≤ maxLen) (W : World) (hA : SC W (.slice p acts.length c) acts) :
    Calls Try.prog 6 #[.int .u64 (n : Int), .slice p acts.length c] W fun e w' => e = .returned (.bool true) ∧ Below W.heap.size W w' := by
  have AW := awake_c W
  have HA := Lib.hid hA
  have HU := Lib.hid ha
  have HMX := Lib.hid hm
  clear hA ha hm
  go_enter Try.func6, Try.ntmps6
  go_wp2_with fail
  refine AW.mono ?_
  rintro e w0 ⟨rfl, bw⟩
  clear AW
  go_upto_region 4 with fail
  rename_i aK
  refine wp_region_seq ?_
  refine wpSeq_alloc 29 zeroC rfl (fun W => by go_simp; rfl) ?_
  simp only [AP]
  refine wpSeq_nil ?_
  refine aK _ _ ?_
  clear aK
  have b0 := bw.alloc bw.size (.cells zeroC 29)
  have M0 := sm_new w0
  have hgB := Lib.hid bw.size
  generalize w0.alloc (.cells zeroC 29) = w1 at *
  generalize w0.heap.size = g at *
  clear bw
  generalize hnl : acts.length = nl at *
  have HNL := Lib.hid hnl
  clear hnl
  go_upto_region 6 with fail
  go_loopw [16] (fun t wr => ∃ i : Nat, i ≤ nl ∧ t = .int .i64 (i : Int) ∧ SM wr g (plA acts (min i 40)).1 (plA acts (min i 40)).2 ∧ Below W.heap.size W wr) (fun t _ => (nl - intOf t).toNat)
  case atStart => exact ⟨0, by omega, rfl, M0, b0⟩
  case round =>
    obtain ⟨i, hi, rfl, hM, hB⟩ := hrel
    clear M0 b0
    have hmx := HMX.out
    simp only [maxLen] at hmx
    by_cases hin : i = nl
    · subst hin
      have x1 : ¬ (i : Int) < (i : Int) := by omega
      have hSn := plA_sn acts (min i 40)
      generalize (plA acts (min i 40)).1 = l at *
      generalize (plA acts (min i 40)).2 = fl at *
      have CS := spans_c g fl l wr hM
      have hlen := hSn.len
      clear hmx HMX
      go_wp2_with fail
      refine CS.mono ?_
      rintro e w6 ⟨v1, rfl, OS1, b6⟩
      clear CS
      have M6 := hM.below b6 hM.lt
      have B6 := hB.trans (b6.mono hB.size)
      clear hM hB b6
      have CS := spans_c g fl l w6 M6
      obtain ⟨p1, c1, rfl⟩ := OS1.shape
      have S1 := Lib.hid OS1.sa
      clear OS1
      go_wp2_with fail
      refine CS.mono ?_
      rintro e w7 ⟨v2, rfl, OS2, b7⟩
      clear CS
      obtain ⟨p2, c2, rfl⟩ := OS2.shape
      have EQ := Lib.hid (show l.length = l.length from rfl)
      have B7 := b7
      have hlt6 := Lib.hid M6.lt
      generalize hln : l.length = ln at *
      have HLN := Lib.hid hln
      clear hln
      go_upto_region 13 with fail
      go_loopw [10] (fun t wx => ∃ (k : Nat) (l' : List (Nat × Nat)), k ≤ ln ∧ t = .int .i64 (k : Int) ∧ l'.length = ln ∧ OwS w6.heap.size wx (.slice p2 ln c2) l' ∧ Below w6.heap.size w6 wx) (fun t _ => (ln - intOf t).toNat)
      case atStart => exact ⟨0, l, Nat.zero_le _, rfl, HLN.out, OS2, B7⟩
      case round =>
        obtain ⟨k, l', hk, rfl, hl', O', C'⟩ := hrel
        clear OS2 b7 B7
        by_cases hkn : k = ln
        · have x2 : ¬ (k : Int) < (ln : Int) := by omega
          clear hkn hl'
          have P1 := fun w => put_nil n w
          have P2 := fun w => has_nil n w
          have P3 := fun w => spans_nil w
          have P4 := fun w => next_nil w
          have M8 := M6.below C' M6.lt
          have B8 := B6.trans (C'.mono B6.size)
          clear M6 B6
          have CSP := fun w h => spans_c g fl l w h
          have ht8 := M8.lt
          go_wp2_with fail
          refine (P1 _).mono ?_
          rintro e w9 ⟨rfl, d9⟩
          replace B8 := B8.trans (d9.mono B8.size)
          have S9 := (S1.out.below C').below d9
          replace M8 := M8.below d9 M8.lt
          clear P1 d9
          go_wp2_with fail
          refine (P2 _).mono ?_
          rintro e w10 ⟨rfl, d10⟩
          replace B8 := B8.trans (d10.mono B8.size)
          replace S9 := S9.below d10
          replace M8 := M8.below d10 M8.lt
          clear P2 d10
          go_wp2_with fail
          refine (P3 _).mono ?_
          rintro e w11 ⟨rfl, d11⟩
          replace B8 := B8.trans (d11.mono B8.size)
          replace S9 := S9.below d11
          replace M8 := M8.below d11 M8.lt
          clear P3 d11
          go_wp2_with fail
          refine (P4 _).mono ?_
          rintro e w12 ⟨rfl, d12⟩
          replace B8 := B8.trans (d12.mono B8.size)
          replace S9 := S9.below d12
          replace M8 := M8.below d12 M8.lt
          clear P4 d12
          go_wp2_with fail
          refine (CSP _ M8).mono ?_
          rintro e w13 ⟨v3, rfl, OS3, d13⟩
          replace B8 := B8.trans (d13.mono B8.size)
          replace S9 := S9.below d13
          obtain ⟨p3, c3, rfl⟩ := OS3.shape
          have S3 := OS3.sa
          have CQ := samesp_c l p1 p3 ln l.length c1 c3 (by have := HLN.out; omega) w13 S9 S3
          have CQh := Lib.hid CQ
          clear CQ CSP OS3 S3 S9 M8 d13
          rw [HLN.out] at CQh
          rw [HLN.out]
          go_wp2_with fail
          refine CQh.out.mono ?_
          rintro e w14 ⟨rfl, d14⟩
          replace B8 := B8.trans (d14.mono B8.size)
          clear CQh
          go_wp2
          go_ret
          exact ⟨rfl, B8⟩
        · have x2 : (k : Int) < (ln : Int) := by omega
          have x0 : (0 : Int) ≤ (k : Int) := by omega
          have hkl : k < l'.length := by omega
          rcases O'.row with ⟨_, h0⟩ | ⟨g2, cap, cur, e, hg2, hcap, hK, hsz, hPA⟩
          · rw [h0] at hkl; exact absurd hkl (Nat.not_lt_zero _)
          · simp only [Value.slice.injEq] at e
            obtain ⟨rfl, _, rfl⟩ := e
            have c1 := hPA.hi k hkl
            have f1 := hK.frozen (k * 2 + 1)
            have O2 := O'.hi_set k (((l'.getD k (0, 0)).2 + 1) % 18446744073709551616) hkl
            have C2 := C'.setCell (p := ⟨g2, k * 2 + 1, none⟩) hg2 (.int .u64 ((((l'.getD k (0, 0)).2 + 1) % 18446744073709551616 : Nat) : Int))
            have R := Lib.hid (And.intro O2 C2)
            have ww := wrap_any (l'.getD k (0, 0)).2
            have ME := Lib.hid (show ((ln : Int) - ((k + 1 : Nat) : Int)).toNat < ((ln : Int) - (k : Int)).toNat by omega)
            have hk1 := Lib.hid (show k + 1 ≤ ln by omega)
            have HL' := Lib.hid (show (l'.set k ((l'.getD k (0, 0)).1, ((l'.getD k (0, 0)).2 + 1) % 18446744073709551616)).length = ln by rw [List.length_set]; exact hl')
            rw [Nat.zero_add] at c1
            clear O2 C2 O' C' hK hPA hkl hkn hsz hl' hcap
            generalize ((l'.getD k (0, 0)).2 + 1) % 18446744073709551616 = y2 at *
            generalize (l'.getD k (0, 0)).2 = y1 at *
            go_wp2
            exact ⟨⟨k + 1, _, hk1.out, rfl, HL'.out, R.out⟩, ME.out⟩
    · have x1 : (i : Int) < (nl : Int) := by omega
      have x0 : (0 : Int) ≤ (i : Int) := by omega
      have hil : i < acts.length := by rw [HNL.out]; omega
      obtain ⟨ga, o, rfl, hAA⟩ := HA.out.at_ (by omega)
      have hA2 := hAA.below hB
      have c1 := hA2.n i hil
      have c2 := hA2.raw i hil
      have hu := HU.out (acts.getD i (0, false)) (by rw [show acts.getD i (0, false) = acts[i] by simp [hil]]; exact List.getElem_mem _)
      have ME := Lib.hid (show ((nl : Int) - ((i + 1 : Nat) : Int)).toNat < ((nl : Int) - (i : Int)).toNat by omega)
      have hi1 := Lib.hid (show i + 1 ≤ nl by omega)
      clear hAA hA2 hin hil
      by_cases h40 : i < 40
      · have x2 : (i : Int) < 40 := by omega
        have e1 : min i 40 = i := by omega
        have e2 : min (i + 1) 40 = i + 1 := by omega
        rw [e1] at hM
        have hSn := plA_sn acts i
        have E2 := Lib.hid (show plA acts (min (i + 1) 40) = putS (plA acts i).1 (plA acts i).2 (numA i (acts.getD i (0, false)).1 (acts.getD i (0, false)).2) by rw [e2]; rfl)
        generalize acts.getD i (0, false) = a at *
        obtain ⟨an, ar⟩ := a
        dsimp only at c1 c2 hu E2
        have CN := fun w => num_c i an ar (by omega) hu w
        have hlt := hM.lt
        have b9 := (Below.refl wr.heap.size wr).alloc (Nat.le_refl _) (.cells #[.int .u64 (an : Int), .bool ar] 35)
        have H40 := Lib.hid h40
        clear e1 e2 hu h40
        go_wp2_with fail
        refine (CN _).mono ?_
        rintro e w6 ⟨rfl, b6⟩
        clear CN
        have b7 := b9.trans (b6.mono b9.size)
        have M7 := hM.below b7 hlt
        have B7 := hB.trans (b7.mono hB.size)
        have PC := put_c g (numA i an ar) _ _ hSn w6 M7
        go_wp2_with fail
        refine PC.mono ?_
        rintro e w8 ⟨rfl, M8, G8⟩
        rw [← E2.out] at M8
        have B8 := below_grown' B7 G8 (fun k hk => by simp only [Option.some.injEq] at hk; have := hgB.out; omega) B7.size
        clear PC M7 B7 b7 b9 b6 hM hB c1 c2
        go_wp2
        exact ⟨⟨i + 1, hi1.out, rfl, M8, B8⟩, ME.out⟩
      · have x2 : ¬ (i : Int) < 40 := by omega
        have e1 : min i 40 = 40 := by omega
        have e2 : min (i + 1) 40 = 40 := by omega
        have E2 := Lib.hid (show min (i + 1) 40 = min i 40 by omega)
        have b9 := (Below.refl wr.heap.size wr).alloc (Nat.le_refl _) (.cells #[.int .u64 (((acts.getD i (0, false)).1 : Nat) : Int), .bool (acts.getD i (0, false)).2] 35)
        have R := Lib.hid (And.intro (hM.below b9 hM.lt) (hB.trans (b9.mono hB.size)))
        clear e1 e2 h40 hM hB hu b9
        generalize (acts.getD i (0, false)).1 = an at *
        generalize (acts.getD i (0, false)).2 = ar at *
        go_wp2
        refine ⟨⟨i + 1, hi1.out, rfl, ?_⟩, ME.out⟩
        rw [E2.out]
        exact R.out
end Go.Proofs.Ytnahjmladhbmpaa
