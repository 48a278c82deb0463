/- The law VarintPuts, by contract of Put (printed by genye.py). -/
import Derived.Test.YtooiaboaejcmhaaYe
namespace Go.Proofs.Ytooiaboaejcmhaa
open Go.RowKit

variable {R : Nat → World → Option Addr → List Nat → Nat → Prop}
set_option maxHeartbeats 8000000 in
set_option maxRecDepth 100000 in
theorem puts_c (PC : PutC) (RC : ReaderC R) (b l : List Nat) (bb : ∀ x ∈ b, x < 256) (bl : ∀ x ∈ l, x < 18446744073709551616) (pb pl : Option Addr) (nb nl cb cl : Nat) (w : World) (hb : SB w (.slice pb nb cb) b) (hl : SU w (.slice pl nl cl) l) :
    Calls Try.prog 3 #[.slice pb nb cb, .slice pl nl cl] w fun e w' => e = .returned (.bool true) ∧ Below w.heap.size w w' := by
  have AW := Lib.hid (vawake_c PC RC)
  have EB := Lib.hid hb.len.1
  have EL := Lib.hid hl.len.1
  clear RC
  go_enter Try.func3, Try.ntmps3
  go_wp2_with fail
  refine (AW.out _).mono ?_
  rintro _ w1 ⟨rfl, b1⟩
  clear AW
  by_cases h1 : 1000 < nb
  · have h2 : (1000 : Int) < (nb : Int) := by omega
    go_wp2
    go_ret
    exact ⟨rfl, b1⟩
  have h2 : ¬ (1000 : Int) < (nb : Int) := by omega
  by_cases h3 : 200 < nl
  · have h4 : (200 : Int) < (nl : Int) := by omega
    go_wp2
    go_ret
    exact ⟨rfl, b1⟩
  have h4 : ¬ (200 : Int) < (nl : Int) := by omega
  obtain ⟨o, ho⟩ : ∃ o, o = putO b l := ⟨_, rfl⟩
  have CP := Lib.hid (fun pb cb W h1 h2 => PC b l o pb pl nb nl cb cl bb bl (by omega) (by omega) ho W h1 h2)
  have CR := Lib.hid (fun bv W h1 h2 => rputall_any b l (by have := EB.out; omega) (by have := EL.out; omega) bv pl nl cl W h1 h2)
  rw [← ho] at CR
  clear ho PC
  go_upto_region 5 with fail
  clear h2 h4
  rename_i aK
  -- in
  have b2 := (Below.refl w1.heap.size w1).alloc (Nat.le_refl _) (.cells #[] 5)
  obtain ⟨v2, w2, hr2, O2, g2, _⟩ := append_sb w1.heap.size _ 22 _ (.slice pb nb cb) [] b (OwL.new w1.heap.size w1 [] (Nat.le_refl _) (Nat.zero_le _)) ((hb.below b1).below b2) (by simp only [List.length_nil]; have := EB.out; omega) b2.size
  rw [List.nil_append] at O2
  have b3 := below_grown' b2 g2 (fun j e => by have e' := Option.some.inj e; dsimp only at e'; omega) b2.size
  obtain ⟨v3, w3, hr3, O3, b4⟩ := append_new w2 w1.heap.size 22 v2 b [7, 7] O2 (by simp only [List.length_cons, List.length_nil]; have := EB.out; omega) b3.size w1 b3
  obtain ⟨g, c, hg, hc, rfl, A⟩ : ∃ g c, w1.heap.size ≤ g ∧ nb + 2 ≤ c ∧ v3 = .slice (some ⟨g, 0, none⟩) (nb + 2) c ∧ BA w3 g 0 (b ++ [7, 7]) := by
    have e2 : (b ++ [7, 7]).length = nb + 2 := by rw [List.length_append, EB.out]; rfl
    rcases O3.row with ⟨_, h0⟩ | ⟨g, c, e, hg, hc, _, A, _⟩
    · rw [h0] at e2
      simp at e2
    · rw [e2] at e hc
      exact ⟨g, c, hg, hc, e, A⟩
  refine wp_region_seq ?_
  refine wpSeq_wp rfl (wp_build_run _ rfl _ _ (run_buildSlice_none _) ?_)
  simp only [Act.put, List.setIfInBounds_toArray, List.set_cons_zero, List.set_cons_succ]
  refine wpSeq_yield (S := fun _ => True) (yieldsIf_move rfl _ rfl (.slice pb nb cb) rfl) trivial ?_
  simp only [Act.put, List.setIfInBounds_toArray, List.set_cons_zero, List.set_cons_succ]
  refine wpSeq_wp rfl (wp_append_run _ _ _ _ rfl _ _ rfl rfl v2 w2 hr2 ?_)
  simp only [Act.put, List.setIfInBounds_toArray, List.set_cons_zero, List.set_cons_succ]
  refine wpSeq_wp rfl ?_
  unfold Oper.wp execOp
  go_simp
  refine wpSeq_wp rfl (wp_append_run _ _ _ _ rfl _ _ rfl rfl _ w3 hr3 ?_)
  simp only [Act.put, List.setIfInBounds_toArray, List.set_cons_zero, List.set_cons_succ]
  refine wpSeq_yield (S := fun _ => True) (yieldsIf_move rfl _ rfl (.slice pb nb cb) rfl) trivial ?_
  simp only [Act.put, List.setIfInBounds_toArray, List.set_cons_zero, List.set_cons_succ]
  refine wpSeq_yield (S := fun _ => True) (v := .int .i64 (nb : Int)) (Or.inl ⟨by rfl, fun w' hw' => by go_simp⟩) trivial ?_
  simp only [Act.put, List.setIfInBounds_toArray, List.set_cons_zero, List.set_cons_succ]
  refine wpSeq_yield (S := fun _ => True) (yieldsIf_head rfl _ _ rfl (some ⟨g, 0, none⟩) (nb + 2) c nb rfl rfl (by omega)) trivial ?_
  simp only [Act.put, List.setIfInBounds_toArray, List.set_cons_zero, List.set_cons_succ]
  refine wpSeq_yield (S := fun _ => True) (yieldsIf_assign rfl _ rfl (.slice (some ⟨g, 0, none⟩) nb c) rfl) trivial ?_
  simp only [Act.put, List.setIfInBounds_toArray, List.set_cons_zero, List.set_cons_succ]
  refine wpSeq_nil ?_
  refine aK _ _ ?_
  clear aK hr2 hr3 g2 O2 O3 b2 b3
  have sI : SB w3 (.slice (some ⟨g, 0, none⟩) nb c) b := by
    have := A.take b.length
    rw [List.take_left' rfl] at this
    exact SB.of_ba' this EB.out (by have := EB.out; omega)
  have B3 := b1.trans (b4.mono b1.size)
  clear b1 b4
  go_wp2_with fail
  refine (CP.out _ _ _ sI (hl.below B3)).mono ?_
  rintro _ w4 ⟨v4, rfl, O4, b5⟩
  replace A := A.below b5
  replace B3 := B3.trans (b5.mono B3.size)
  replace sI := sI.below b5
  clear b5 CP
  go_upto_region 7 with fail
  rename_i aK
  have b6 := (Below.refl w4.heap.size w4).alloc (Nat.le_refl _) (.cells #[] 5)
  obtain ⟨v5, w5, hr5, O5, g5, _⟩ := append_sb w4.heap.size _ 22 _ (.slice pb nb cb) [] b (OwL.new w4.heap.size w4 [] (Nat.le_refl _) (Nat.zero_le _)) ((hb.below B3).below b6) (by simp only [List.length_nil]; have := EB.out; omega) b6.size
  rw [List.nil_append] at O5
  have b7 := below_grown' b6 g5 (fun j e => by have e' := Option.some.inj e; dsimp only at e'; omega) b6.size
  refine wp_region_seq ?_
  refine wpSeq_wp rfl (wp_build_run _ rfl _ _ (run_buildSlice_none _) ?_)
  simp only [Act.put, List.setIfInBounds_toArray, List.set_cons_zero, List.set_cons_succ]
  refine wpSeq_yield (S := fun _ => True) (yieldsIf_move rfl _ rfl (.slice pb nb cb) rfl) trivial ?_
  simp only [Act.put, List.setIfInBounds_toArray, List.set_cons_zero, List.set_cons_succ]
  refine wpSeq_wp rfl (wp_append_run _ _ _ _ rfl _ _ rfl rfl v5 w5 hr5 ?_)
  simp only [Act.put, List.setIfInBounds_toArray, List.set_cons_zero, List.set_cons_succ]
  refine wpSeq_yield (S := fun _ => True) (yieldsIf_move rfl _ rfl (.slice pl nl cl) rfl) trivial ?_
  simp only [Act.put, List.setIfInBounds_toArray, List.set_cons_zero, List.set_cons_succ]
  refine wpSeq_wp rfl ?_
  unfold Oper.wp execOp
  go_simp
  refine (CR.out _ _ O5.sb (hl.below (B3.trans (b7.mono B3.size)))).mono ?_
  rintro _ w6 ⟨v6, rfl, s6, b8⟩
  go_simp
  replace b7 := b7.trans (b8.mono b7.size)
  replace A := A.below b7
  replace O4 := O4.below b7
  replace sI := sI.below b7
  replace B3 := B3.trans (b7.mono B3.size)
  refine wpSeq_yield (S := fun _ => True) (yieldsIf_move rfl _ rfl (.tuple #[v6, .bool o.isSome]) rfl) trivial ?_
  simp only [Act.put, List.setIfInBounds_toArray, List.set_cons_zero, List.set_cons_succ]
  refine wpSeq_yield (S := fun _ => True) (v := v6) (Or.inl ⟨by rfl, fun w' hw' => by go_simp⟩) trivial ?_
  simp only [Act.put, List.setIfInBounds_toArray, List.set_cons_zero, List.set_cons_succ]
  refine wpSeq_yield (S := fun _ => True) (v := .bool o.isSome) (Or.inl ⟨by rfl, fun w' hw' => by go_simp⟩) trivial ?_
  simp only [Act.put, List.setIfInBounds_toArray, List.set_cons_zero, List.set_cons_succ]
  refine wpSeq_yield (S := fun _ => True) (yieldsIf_assign rfl _ rfl (v6) rfl) trivial ?_
  simp only [Act.put, List.setIfInBounds_toArray, List.set_cons_zero, List.set_cons_succ]
  refine wpSeq_yield (S := fun _ => True) (yieldsIf_assign rfl _ rfl (.bool o.isSome) rfl) trivial ?_
  simp only [Act.put, List.setIfInBounds_toArray, List.set_cons_zero, List.set_cons_succ]
  refine wpSeq_nil ?_
  refine aK _ _ ?_
  clear aK b6 b7 b8 hr5 g5 O5 CR
  have d1 : IntKind.i64.wrap ((nb : Int) + 1) = ((nb + 1 : Nat) : Int) := by rw [IntKind.wrap_i64]; omega
  have c7 : w6.cell? ⟨g, nb, none⟩ = some (.int .u8 7) := by
    have := A.cell nb (by rw [List.length_append, ← EB.out]; simp)
    rw [Nat.zero_add] at this
    rw [this, List.getElem_append_right (by rw [EB.out]; exact Nat.le_refl _)]
    simp [EB.out]
  have hbw := hb.below B3
  have i0 : (0 : Int) ≤ (nb : Int) := by omega
  have i1 : (nb : Int) < (nb : Int) + 1 := by omega
  go_upto_region 8 with fail
  rename_i aK
  refine wp_region_seq ?_
  refine wpSeq_yield (S := fun _ => True) (yieldsIf_move rfl _ rfl (.slice (some ⟨g, 0, none⟩) nb c) rfl) trivial ?_
  simp only [Act.put, List.setIfInBounds_toArray, List.set_cons_zero, List.set_cons_succ]
  refine wpSeq_yield (S := fun _ => True) (yieldsIf_move rfl _ rfl (.slice pb nb cb) rfl) trivial ?_
  simp only [Act.put, List.setIfInBounds_toArray, List.set_cons_zero, List.set_cons_succ]
  refine wpSeq_yield (S := fun _ => True) (v := .int .i64 (nb : Int)) (Or.inl ⟨by rfl, fun w' hw' => by go_simp⟩) trivial ?_
  simp only [Act.put, List.setIfInBounds_toArray, List.set_cons_zero, List.set_cons_succ]
  refine wpSeq_yield (S := fun _ => True) (v := .int .i64 ((nb + 1 : Nat) : Int)) (Or.inl ⟨by rfl, fun w' hw' => by go_simp⟩) trivial ?_
  simp only [Act.put, List.setIfInBounds_toArray, List.set_cons_zero, List.set_cons_succ]
  refine wpSeq_yield (S := fun _ => True) (yieldsIf_head rfl _ _ rfl (some ⟨g, 0, none⟩) nb c (nb + 1) rfl rfl (by omega)) trivial ?_
  simp only [Act.put, List.setIfInBounds_toArray, List.set_cons_zero, List.set_cons_succ]
  refine wpSeq_yield (S := fun _ => True) (yieldsIf_move rfl _ rfl (.slice pb nb cb) rfl) trivial ?_
  simp only [Act.put, List.setIfInBounds_toArray, List.set_cons_zero, List.set_cons_succ]
  refine wpSeq_yield (S := fun _ => True) (v := .int .i64 (nb : Int)) (Or.inl ⟨by rfl, fun w' hw' => by go_simp⟩) trivial ?_
  simp only [Act.put, List.setIfInBounds_toArray, List.set_cons_zero, List.set_cons_succ]
  refine wpSeq_yield (S := fun _ => True) (v := .pointer (some ⟨g, nb, none⟩)) (Or.inl ⟨by rfl, fun w' hw' => by go_simp⟩) trivial ?_
  simp only [Act.put, List.setIfInBounds_toArray, List.set_cons_zero, List.set_cons_succ]
  refine wpSeq_yield (S := fun w' => w' = w6) (v := .int .u8 7) (Or.inl ⟨by rfl, fun w' hw' => by rw [hw']; go_simp⟩) rfl ?_
  simp only [Act.put, List.setIfInBounds_toArray, List.set_cons_zero, List.set_cons_succ]
  refine wpSeq_yield (S := fun _ => True) (v := .bool false) (Or.inl ⟨by rfl, fun w' hw' => by go_simp⟩) trivial ?_
  simp only [Act.put, List.setIfInBounds_toArray, List.set_cons_zero, List.set_cons_succ]
  refine wpSeq_yield (S := fun _ => True) (yieldsIf_move rfl _ rfl (.bool false) rfl) trivial ?_
  simp only [Act.put, List.setIfInBounds_toArray, List.set_cons_zero, List.set_cons_succ]
  refine wpSeq_yield (S := fun w' => w' = w6) (yieldsIf_move rfl _ rfl (.slice (some ⟨g, 0, none⟩) nb c) rfl) rfl ?_
  simp only [Act.put, List.setIfInBounds_toArray, List.set_cons_zero, List.set_cons_succ]
  refine wpSeq_yield (S := fun w' => w' = w6) (yieldsIf_conv rfl _ rfl (.slice (some ⟨g, 0, none⟩) nb c) rfl b (fun w' h => h ▸ sI)) rfl ?_
  simp only [Act.put, List.setIfInBounds_toArray, List.set_cons_zero, List.set_cons_succ]
  refine wpSeq_yield (S := fun w' => w' = w6) (yieldsIf_move rfl _ rfl (.slice pb nb cb) rfl) rfl ?_
  simp only [Act.put, List.setIfInBounds_toArray, List.set_cons_zero, List.set_cons_succ]
  refine wpSeq_yield (S := fun w' => w' = w6) (yieldsIf_conv rfl _ rfl (.slice pb nb cb) rfl b (fun w' h => h ▸ hbw)) rfl ?_
  simp only [Act.put, List.setIfInBounds_toArray, List.set_cons_zero, List.set_cons_succ]
  refine wpSeq_yield (S := fun w' => w' = w6) (yieldsIf_strN rfl _ _ rfl b b rfl rfl rfl) rfl ?_
  simp only [Act.put, List.setIfInBounds_toArray, List.set_cons_zero, List.set_cons_succ]
  refine wpSeq_yield (S := fun w' => w' = w6) (yieldsIf_pick rfl _ _ _ rfl false rfl (.bool false) rfl) rfl ?_
  simp only [Act.put, List.setIfInBounds_toArray, List.set_cons_zero, List.set_cons_succ]
  refine wpSeq_nil ?_
  refine aK _ _ ?_
  clear aK d1 c7 A
  cases o with
  | none =>
    obtain ⟨p4, c4, hv⟩ := O4.shape
    replace hv : v4 = .slice p4 0 c4 := hv
    subst hv
    clear O4 s6 sI hbw
    go_upto_region 11 with fail
    rename_i aK
    refine wp_region_seq ?_
    refine wpSeq_yield (S := fun _ => True) (yieldsIf_move rfl _ rfl (.int .i64 2) rfl) trivial ?_
    simp only [Act.put, List.setIfInBounds_toArray, List.set_cons_zero, List.set_cons_succ]
    refine wpSeq_yield (S := fun _ => True) (v := .bool true) (Or.inl ⟨by rfl, fun w' hw' => by go_simp⟩) trivial ?_
    simp only [Act.put, List.setIfInBounds_toArray, List.set_cons_zero, List.set_cons_succ]
    refine wpSeq_yield (S := fun _ => True) (yieldsIf_move rfl _ rfl (.bool true) rfl) trivial ?_
    simp only [Act.put, List.setIfInBounds_toArray, List.set_cons_zero, List.set_cons_succ]
    refine wpSeq_yield (S := fun _ => True) (yieldsIf_move rfl _ rfl (.slice p4 0 c4) rfl) trivial ?_
    simp only [Act.put, List.setIfInBounds_toArray, List.set_cons_zero, List.set_cons_succ]
    refine wpSeq_yield (S := fun _ => True) (v := .int .i64 0) (Or.inl ⟨by rfl, fun w' hw' => by go_simp⟩) trivial ?_
    simp only [Act.put, List.setIfInBounds_toArray, List.set_cons_zero, List.set_cons_succ]
    refine wpSeq_yield (S := fun _ => True) (v := .bool true) (Or.inl ⟨by rfl, fun w' hw' => by go_simp⟩) trivial ?_
    simp only [Act.put, List.setIfInBounds_toArray, List.set_cons_zero, List.set_cons_succ]
    refine wpSeq_yield (S := fun _ => True) (yieldsIf_pick rfl _ _ _ rfl true rfl (.bool true) rfl) trivial ?_
    simp only [Act.put, List.setIfInBounds_toArray, List.set_cons_zero, List.set_cons_succ]
    refine wpSeq_yield (S := fun _ => True) (yieldsIf_assign rfl _ rfl (.bool true) rfl) trivial ?_
    simp only [Act.put, List.setIfInBounds_toArray, List.set_cons_zero, List.set_cons_succ]
    refine wpSeq_nil ?_
    refine aK _ _ ?_
    clear aK
    go_wp2
    go_ret
    exact ⟨rfl, B3⟩
  | some r =>
    replace O4 : OwL _ w6 v4 r := O4
    have s4 := O4.sb
    have s5 := s6 r rfl
    clear O4 s6 sI hbw
    go_upto_region 12 with fail
    rename_i aK
    refine wp_region_seq ?_
    refine wpSeq_yield (S := fun _ => True) (yieldsIf_move rfl _ rfl (.int .i64 0) rfl) trivial ?_
    simp only [Act.put, List.setIfInBounds_toArray, List.set_cons_zero, List.set_cons_succ]
    refine wpSeq_yield (S := fun _ => True) (v := .bool true) (Or.inl ⟨by rfl, fun w' hw' => by go_simp⟩) trivial ?_
    simp only [Act.put, List.setIfInBounds_toArray, List.set_cons_zero, List.set_cons_succ]
    refine wpSeq_yield (S := fun _ => True) (yieldsIf_move rfl _ rfl (.bool true) rfl) trivial ?_
    simp only [Act.put, List.setIfInBounds_toArray, List.set_cons_zero, List.set_cons_succ]
    refine wpSeq_yield (S := fun w' => w' = w6) (yieldsIf_move rfl _ rfl (v4) rfl) rfl ?_
    simp only [Act.put, List.setIfInBounds_toArray, List.set_cons_zero, List.set_cons_succ]
    refine wpSeq_yield (S := fun w' => w' = w6) (yieldsIf_conv rfl _ rfl v4 rfl r (fun w' h => h ▸ s4)) rfl ?_
    simp only [Act.put, List.setIfInBounds_toArray, List.set_cons_zero, List.set_cons_succ]
    refine wpSeq_yield (S := fun w' => w' = w6) (yieldsIf_move rfl _ rfl (v6) rfl) rfl ?_
    simp only [Act.put, List.setIfInBounds_toArray, List.set_cons_zero, List.set_cons_succ]
    refine wpSeq_yield (S := fun w' => w' = w6) (yieldsIf_conv rfl _ rfl v6 rfl r (fun w' h => h ▸ s5)) rfl ?_
    simp only [Act.put, List.setIfInBounds_toArray, List.set_cons_zero, List.set_cons_succ]
    refine wpSeq_yield (S := fun w' => w' = w6) (yieldsIf_strB rfl _ _ rfl r r rfl rfl rfl) rfl ?_
    simp only [Act.put, List.setIfInBounds_toArray, List.set_cons_zero, List.set_cons_succ]
    refine wpSeq_yield (S := fun w' => w' = w6) (yieldsIf_pick rfl _ _ _ rfl true rfl (.bool true) rfl) rfl ?_
    simp only [Act.put, List.setIfInBounds_toArray, List.set_cons_zero, List.set_cons_succ]
    refine wpSeq_yield (S := fun _ => True) (yieldsIf_assign rfl _ rfl (.bool true) rfl) trivial ?_
    simp only [Act.put, List.setIfInBounds_toArray, List.set_cons_zero, List.set_cons_succ]
    refine wpSeq_nil ?_
    refine aK _ _ ?_
    clear aK s4 s5
    go_wp2
    go_ret
    exact ⟨rfl, B3⟩
end Go.Proofs.Ytooiaboaejcmhaa
