/- Whether spans are the same; an act's number; the law's Awake (printed by gen17/sm.py). -/
import Derived.Test.YtnahjmladhbmpaaSi
namespace Go.Proofs.Ytnahjmladhbmpaa
open Go.RowKit

set_option maxHeartbeats 8000000 in
set_option maxRecDepth 100000 in
theorem samesp_c (l : List (Nat × Nat)) (p q : Option Addr) (n m c d : Nat) (hn : n ≤ 1000000) (W : World) (hs : SA W (.slice p n c) l) (ht : SA W (.slice q m d) l) :
    Calls Try.prog 14 #[.slice p n c, .slice q m d] W fun e w' => e = .returned (.bool true) ∧ Below W.heap.size W w' := by
  have em : m = n := ht.len.1.trans hs.len.1.symm
  subst em
  have EL := Lib.hid hs.len.1
  have HS := Lib.hid hs
  have HT := Lib.hid ht
  clear hs ht
  go_enter Try.func14, Try.ntmps14
  go_upto_region 4 with fail
  go_loopw [5] (fun t wr => ∃ i : Nat, i ≤ m ∧ t = .int .i64 (i : Int) ∧ Below W.heap.size W wr) (fun t _ => (m - intOf t).toNat)
  case atStart => exact ⟨0, by omega, rfl, Below.refl _ _⟩
  case round =>
    obtain ⟨i, hi, rfl, hB⟩ := hrel
    by_cases hin : i = m
    · subst i
      go_wp2
      go_ret
      exact ⟨rfl, hB⟩
    · have i1 : (i : Int) < (m : Int) := by omega
      have i0 : (0 : Int) ≤ (i : Int) := by omega
      have il : i < l.length := by rw [← EL.out]; omega
      obtain ⟨g, oo, rfl, hA⟩ : ∃ g o, p = some ⟨g, o, none⟩ ∧ PA W g o l := by
        rcases HS.out.at_ with h0 | h0
        · omega
        · exact h0
      obtain ⟨g', oo', rfl, hA'⟩ : ∃ g o, q = some ⟨g, o, none⟩ ∧ PA W g o l := by
        rcases HT.out.at_ with h0 | h0
        · omega
        · exact h0
      replace hB := below_drew hB
      have hS : (fun w' : World => w'.rangeAt g (oo + i * 2) (spL (l.getD i (0, 0))) ∧ w'.rangeAt g' (oo' + i * 2) (spL (l.getD i (0, 0)))) wr.drew := ⟨(hA.below hB).at_ i il, (hA'.below hB).at_ i il⟩
      clear hA hA' HS HT
      generalize l.getD i (0, 0) = x at *
      go_upto_region 6 with fail
      rename_i aK
      refine wp_region_S (S := fun w' => w'.rangeAt g (oo + i * 2) (spL x) ∧ w'.rangeAt g' (oo' + i * 2) (spL x)) (by kernel_rfl) ?_
      refine wpAnyS_takeL 0 (v := .slice (some ⟨g, oo, none⟩) m c) rfl (by kernel_rfl) (by kernel_rfl) (by kernel_rfl) (fun _ _ _ H => H) (yieldsIf_move rfl _ rfl (.slice (some ⟨g, oo, none⟩) m c) rfl) hS ?_
      simp only [AP]
      refine wpAnyS_takeL 1 (v := .int .i64 (i : Int)) rfl (by kernel_rfl) (by kernel_rfl) (by kernel_rfl) (fun _ _ _ H => H) (yieldsIf_move rfl _ rfl (.int .i64 (i : Int)) rfl) hS ?_
      simp only [AP]
      refine wpAnyS_takeL 2 (v := .pointer (some ⟨g, oo + i * 2, none⟩)) rfl (by kernel_rfl) (by kernel_rfl) (by kernel_rfl) (fun _ _ _ H => H) (Or.inl ⟨by rfl, fun w' hw' => by (go_simp)⟩) hS ?_
      simp only [AP]
      refine wpAnyS_takeL 3 (v := .agg (spL x).toArray) rfl (by kernel_rfl) (by kernel_rfl) (by kernel_rfl) (fun _ _ _ H => H) (show YieldsIf _ _ _ _ (.agg (spL x).toArray) _ from yieldsIf_load_mid rfl 26 _ rfl g (oo + i * 2) rfl (spL x) _ (fun _ h => h.1) Try.underlying26 rfl (info_spL x)) hS ?_
      simp only [AP]
      refine wpAnyS_takeL 4 (v := .slice (some ⟨g', oo', none⟩) m d) rfl (by kernel_rfl) (by kernel_rfl) (by kernel_rfl) (fun _ _ _ H => H) (yieldsIf_move rfl _ rfl (.slice (some ⟨g', oo', none⟩) m d) rfl) hS ?_
      simp only [AP]
      refine wpAnyS_takeL 5 (v := .int .i64 (i : Int)) rfl (by kernel_rfl) (by kernel_rfl) (by kernel_rfl) (fun _ _ _ H => H) (yieldsIf_move rfl _ rfl (.int .i64 (i : Int)) rfl) hS ?_
      simp only [AP]
      refine wpAnyS_takeL 6 (v := .pointer (some ⟨g', oo' + i * 2, none⟩)) rfl (by kernel_rfl) (by kernel_rfl) (by kernel_rfl) (fun _ _ _ H => H) (Or.inl ⟨by rfl, fun w' hw' => by (go_simp)⟩) hS ?_
      simp only [AP]
      refine wpAnyS_takeL 7 (v := .agg (spL x).toArray) rfl (by kernel_rfl) (by kernel_rfl) (by kernel_rfl) (fun _ _ _ H => H) (show YieldsIf _ _ _ _ (.agg (spL x).toArray) _ from yieldsIf_load_mid rfl 26 _ rfl g' (oo' + i * 2) rfl (spL x) _ (fun _ h => h.2) Try.underlying26 rfl (info_spL x)) hS ?_
      simp only [AP]
      refine wpAnyS_takeL 8 (v := .bool false) rfl (by kernel_rfl) (by kernel_rfl) (by kernel_rfl) (fun _ _ _ H => H) (Or.inl ⟨by rfl, fun w' hw' => by (simp only [spL]; go_simp)⟩) hS ?_
      simp only [AP]
      refine wpAnyS_done (by kernel_rfl) ?_ _
      refine aK _ _ ?_
      clear aK hS
      go_wp2
      exact ⟨⟨i + 1, by omega, rfl, hB⟩, by simp only [intOf]; omega⟩
/-- An act's number. -/
def numA (i a : Nat) (raw : Bool) : Nat := if raw then a else i / 3 * 2 + a % 90
theorem numA_lt (i a : Nat) (raw : Bool) (ha : a < 18446744073709551616) (hi : i ≤ 1000) : numA i a raw < 18446744073709551616 := by
  unfold numA
  split <;> omega
set_option maxHeartbeats 8000000 in
set_option maxRecDepth 100000 in
theorem num_c (i a : Nat) (raw : Bool) (hi : i ≤ 1000) (ha : a < 18446744073709551616) (W : World) :
    Calls Try.prog 9 #[.agg #[.int .u64 (a : Int), .bool raw], .int .i64 (i : Int)] W fun e w' => e = .returned (.int .u64 (numA i a raw : Int)) ∧ Below W.heap.size W w' := by
  have b1 := (Below.refl W.heap.size W).alloc (Nat.le_refl _) (.cells #[.int .u64 (a : Int), .bool raw] 35)
  cases raw
  · have e : numA i a false = i / 3 * 2 + a % 90 := rfl
    rw [e]
    have d1 : ((i : Int)).tdiv 3 = ((i / 3 : Nat) : Int) := by
      rw [Int.tdiv_eq_ediv_of_nonneg (by omega)]
      omega
    have w1 : IntKind.i64.wrap ((i / 3 : Nat) : Int) = ((i / 3 : Nat) : Int) := by simp [IntKind.wrap, IntKind.bits, IntKind.signed]; omega
    have w2 : IntKind.u64.wrap ((i / 3 : Nat) : Int) = ((i / 3 : Nat) : Int) := by simp [IntKind.wrap, IntKind.bits, IntKind.signed]; omega
    have d2 : ((a : Int)).tmod 90 = ((a % 90 : Nat) : Int) := by
      rw [Int.tmod_eq_emod_of_nonneg (by omega)]
      omega
    have hq := Lib.hid (show i / 3 ≤ 1000 ∧ a % 90 < 90 from ⟨by omega, by omega⟩)
    generalize i / 3 = q at *
    generalize a % 90 = r at *
    have w3 : IntKind.u64.wrap ((q : Int) * 2) = (q : Int) * 2 := by have := hq.out; simp [IntKind.wrap, IntKind.bits, IntKind.signed]; omega
    have w4 : IntKind.u64.wrap ((q : Int) * 2 + (r : Int)) = (q : Int) * 2 + (r : Int) := by have := hq.out; simp [IntKind.wrap, IntKind.bits, IntKind.signed]; omega
    have w5 : IntKind.u64.wrap (r : Int) = (r : Int) := by have := hq.out; simp [IntKind.wrap, IntKind.bits, IntKind.signed]; omega
    go_enter Try.func9, Try.ntmps9
    go_wp2
    go_ret

    exact ⟨by rfl, b1⟩
  · have e : numA i a true = a := rfl
    rw [e]
    go_enter Try.func9, Try.ntmps9
    go_wp2
    go_ret
    exact ⟨rfl, b1⟩
def zeroC : Array Value := (seenL (List.replicate 32 (0, 0)) 0 0).toArray
theorem sm_new (w : World) : SM (w.alloc (.cells zeroC 29)) w.heap.size [] 0 := ⟨List.replicate 32 (0, 0), rfl, Blk.new w 29 _⟩
theorem put_is (g n fl : Nat) (l : List (Nat × Nat)) (hS : Sn l fl) (b : Bool) (l' : List (Nat × Nat)) (fl' : Nat) (h1 : okS l fl n = b) (h2 : putS l fl n = (l', fl')) (W : World) (h : SM W g l fl) (B : Nat) (W0 : World) (hb : Below B W0 W) (hg : B ≤ g) (N : Int) (hN : N = (n : Int)) :
    Calls Try.prog 10 #[.pointer (some ⟨g, 0, none⟩), .int .u64 N] W fun e w' => e = .returned (.bool b) ∧ SM w' g l' fl' ∧ Below B W0 w' := by
  subst hN
  refine (put_c g n fl l hS W h).mono ?_
  rintro e w' ⟨rfl, hM, hG⟩
  rw [h2] at hM
  rw [h1]
  exact ⟨rfl, hM, below_grown' hb hG (fun k hk => by simp only [Option.some.injEq] at hk; omega) (by have := h.lt; omega)⟩
set_option maxHeartbeats 8000000 in
set_option maxRecDepth 100000 in
theorem awake_c (W : World) : Calls Try.prog 8 #[] W fun e w' => e = .returned (.bool true) ∧ Below W.heap.size W w' := by
  have S1 := Sn.nil
  have S2 : Sn [(3, 3)] 0 := putS_sn (n := 3) S1
  have S3 : Sn [(5, 5), (3, 3)] 0 := putS_sn (n := 5) S2
  have S4 : Sn [(3, 5)] 0 := putS_sn (n := 4) S3
  have b0 := (Below.refl W.heap.size W).alloc (Nat.le_refl _) (.cells zeroC 29)
  have M0 := sm_new W
  have P1 := fun w b h => put_is W.heap.size 3 0 [] S1 true [(3, 3)] 0 (by decide) (by decide) w h W.heap.size W b (Nat.le_refl _) 3 rfl
  have P2 := fun w b h => put_is W.heap.size 5 0 _ S2 true [(5, 5), (3, 3)] 0 (by decide) (by decide) w h W.heap.size W b (Nat.le_refl _) 5 rfl
  have P3 := fun w b h => put_is W.heap.size 4 0 _ S3 true [(3, 5)] 0 (by decide) (by decide) w h W.heap.size W b (Nat.le_refl _) 4 rfl
  have P4 := fun w b h => put_is W.heap.size 4 0 _ S4 false [(3, 5)] 0 (by decide) (by decide) w h W.heap.size W b (Nat.le_refl _) 4 rfl
  clear S1 S2 S3
  go_enter Try.func8, Try.ntmps8
  go_upto_region 1 with fail
  rename_i aK
  refine wp_region_seq ?_
  refine wpSeq_alloc 29 zeroC rfl (fun W => by go_simp; rfl) ?_
  simp only [AP]
  refine wpSeq_nil ?_
  refine aK _ _ ?_
  clear aK
  generalize W.alloc (.cells zeroC 29) = w1 at *
  generalize hgg : W.heap.size = g at *
  go_wp2_with fail
  refine (P1 w1 b0 M0).mono ?_
  rintro e w2 ⟨rfl, M1, b1⟩
  clear P1 M0 b0
  go_wp2_with fail
  refine (P2 w2 b1 M1).mono ?_
  rintro e w3 ⟨rfl, M2, b2⟩
  clear P2 M1 b1
  go_wp2_with fail
  refine (P3 w3 b2 M2).mono ?_
  rintro e w4 ⟨rfl, M3, b3⟩
  clear P3 M2 b2
  go_wp2_with fail
  refine (P4 w4 b3 M3).mono ?_
  rintro e w5 ⟨rfl, M4, b4⟩
  clear P4 M3 b3
  have CS := spans_c g 0 [(3, 5)] w5 M4
  have CN := fun w h => next_c g 0 [(3, 5)] S4 w h
  go_wp2_with fail
  refine CS.mono ?_
  rintro e w6 ⟨v, rfl, OS, b6⟩
  clear CS
  have M6 := M4.below b6 M4.lt
  rcases OS.row with ⟨_, h0⟩ | ⟨gs, cap, cur, rfl, _, _, _, _, hPA⟩
  · cases h0
  have c1 := hPA.lo 0 (by decide)
  have c2 := hPA.hi 0 (by decide)
  have b7 := b4.trans (b6.mono (by have := b4.size; omega))
  have CN6 := CN w6 M6
  clear CN M4 OS S4 hPA
  rw [show (nextS [(3, 5)] : Nat) = 6 from rfl] at CN6
  have e1 : (([(3, 5)] : List (Nat × Nat)).getD 0 (0, 0)).1 = 3 := rfl
  have e2 : (([(3, 5)] : List (Nat × Nat)).getD 0 (0, 0)).2 = 5 := rfl
  rw [e1] at c1
  rw [e2] at c2
  have e3 : ([(3, 5)] : List (Nat × Nat)).length = 1 := rfl
  rw [e3]
  clear e1 e2 e3
  go_wp2_with fail
  refine CN6.mono ?_
  rintro e w7 ⟨rfl, b8⟩
  go_wp2
  go_ret
  refine ⟨rfl, ?_⟩
  rw [hgg]
  exact b7.trans (b8.mono (by have := b7.size; omega))
end Go.Proofs.Ytnahjmladhbmpaa
