/- The program's parsing: a frame; that it takes bytes. -/
import Derived.Test.YtdlhclakdllogaaWf
import Derived.Test.YtdlhclakdllogaaWg
import Derived.Test.YtdlhclakdllogaaWh
import Derived.Test.YtdlhclakdllogaaWi
import Derived.Test.YtdlhclakdllogaaWj
import Derived.Test.YtdlhclakdllogaaWk
import Derived.Test.YtdlhclakdllogaaWl
namespace Go.Proofs.Ytdlhclakdllogaa
open Go.RowKit

theorem frameS_of {l : List Nat} {k : Nat} {l1 : List Nat} {c1 : Nat} {f : Fr} {lr : List Nat} {cr : Nat} (hz : numS l 0 = (k, l1, c1)) (hf : fieldsK k l1 c1 = (f, lr, cr)) : frameS l = (f, lr, if 4611686018427387903 < f.off + f.data.length then failS cr 2 else cr) := by
  unfold frameS
  rw [hz]
  dsimp only
  rw [hf]
theorem num_all {l : List Nat} {c : Nat} : ∃ z l' c', numS l c = (z, l', c') := ⟨_, _, _, rfl⟩
theorem data_all {l : List Nat} {c : Nat} : ∃ D l' c', dataS l c = (D, l', c') := ⟨_, _, _, rfl⟩
theorem num_small {l : List Nat} {c z : Nat} {l' : List Nat} {c' : Nat} (hl : ∀ x ∈ l, x < 256) (h : numS l c = (z, l', c')) : z < 18446744073709551616 := by
  have := numS_lt l c hl
  rw [h] at this
  dsimp only at this
  omega
/-- What is left is no more than there was; a fault stays. -/
structure Shr (l : List Nat) (c : Nat) (q : List Nat × Nat) : Prop where
  len : q.1.length ≤ l.length
  zero : q.2 = 0 → c = 0
  mem : ∀ x ∈ q.1, x ∈ l
theorem Shr.refl (l : List Nat) (c : Nat) : Shr l c (l, c) := ⟨Nat.le_refl _, id, fun _ h => h⟩
theorem Shr.trans {l : List Nat} {c : Nat} {q r : List Nat × Nat} (h : Shr l c q) (k : Shr q.1 q.2 r) : Shr l c r := ⟨Nat.le_trans k.len h.len, fun e => h.zero (k.zero e), fun x hx => h.mem x (k.mem x hx)⟩
theorem failS_zero {c d : Nat} (h : failS c d = 0) : c = 0 := by
  unfold failS at h
  split at h
  · assumption
  · exact h
theorem Shr.fail {l : List Nat} {c : Nat} {q : List Nat × Nat} (h : Shr l c q) (d : Nat) : Shr l c (q.1, failS q.2 d) := ⟨h.len, fun e => h.zero (failS_zero e), h.mem⟩
theorem shr_num (l : List Nat) (c : Nat) : Shr l c (numS l c).2 := by
  by_cases hc : c = 0
  · subst hc
    cases h : takeV l with
    | none =>
      rw [numS_none l h]
      exact ⟨Nat.le_refl _, (fun e => by cases e), fun _ h => h⟩
    | some q =>
      have e : numS l 0 = (q.1, q.2, 0) := by
        unfold numS
        rw [if_neg (by decide), h]
      rw [e]
      cases l with
      | nil => cases h
      | cons x r =>
        by_cases hs : r.length + 1 < 2 ^ (x / 64)
        · rw [show takeV (x :: r) = none from if_pos hs] at h
          cases h
        · rw [show takeV (x :: r) = some (beN (x % 64) (r.take (2 ^ (x / 64) - 1)), r.drop (2 ^ (x / 64) - 1)) from if_neg hs] at h
          replace h := Option.some.inj h
          subst h
          refine ⟨?_, fun _ => rfl, fun y hy => List.mem_cons_of_mem _ (List.mem_of_mem_drop hy)⟩
          show (r.drop _).length ≤ r.length + 1
          rw [List.length_drop]
          omega
  · rw [numS_fault l c hc]
    exact Shr.refl l c
theorem num_strict {l : List Nat} (h : (numS l 0).2.2 = 0) : (numS l 0).2.1.length < l.length := by
  cases l with
  | nil => exact absurd h (by decide)
  | cons x r =>
    by_cases hs : r.length + 1 < 2 ^ (x / 64)
    · rw [numS_none _ (show takeV (x :: r) = none from if_pos hs)] at h
      cases h
    · have e : numS (x :: r) 0 = (beN (x % 64) (r.take (2 ^ (x / 64) - 1)), r.drop (2 ^ (x / 64) - 1), 0) := by
        unfold numS
        rw [if_neg (by decide), show takeV (x :: r) = some (beN (x % 64) (r.take (2 ^ (x / 64) - 1)), r.drop (2 ^ (x / 64) - 1)) from if_neg hs]
      rw [e]
      show (r.drop _).length < r.length + 1
      rw [List.length_drop]
      omega
theorem shr_bytes (n : Nat) (l : List Nat) (c : Nat) : Shr l c (bytesS n l c).2 := by
  unfold bytesS
  by_cases hc : c = 0
  · subst hc
    rw [if_neg (by decide)]
    by_cases hl : l.length < n
    · rw [if_pos hl]
      exact ⟨Nat.le_refl _, (fun e => by cases e), fun _ h => h⟩
    · rw [if_neg hl]
      refine ⟨?_, fun _ => rfl, fun x hx => List.mem_of_mem_drop hx⟩
      show (l.drop n).length ≤ _
      rw [List.length_drop]
      omega
  · rw [if_pos hc]
    exact Shr.refl l c
theorem shr_data (l : List Nat) (c : Nat) : Shr l c (dataS l c).2 := by
  unfold dataS
  by_cases h : 2048 < (numS l c).1
  · rw [if_pos h]
    exact Shr.trans ((shr_num l c).fail 8) (shr_bytes _ _ _)
  · rw [if_neg h]
    exact Shr.trans (shr_num l c) (shr_bytes _ _ _)
theorem shr_less {l : List Nat} {c : Nat} {q : List Nat × Nat} (h : Shr l c q) (a b : Nat) : Shr l c (q.1, (lessS a b q.2).2) := by
  unfold lessS
  split
  · exact h.fail 5
  · exact h
theorem shr_more : ∀ (m lo : Nat) (l : List Nat) (c : Nat) (acc : List (Nat × Nat)), Shr l c (moreS m lo l c acc).2
  | 0, _, l, c, _ => Shr.refl l c
  | m + 1, lo, l, c, acc => by
    unfold moreS
    split
    · exact Shr.refl l c
    · exact Shr.trans (shr_less (Shr.trans (shr_less (shr_num l c) lo ((numS l c).1 + 2)) (shr_num _ _)) _ _) (shr_more m _ _ _ _)
theorem shr_ack (l : List Nat) (c : Nat) : Shr l c (ackS l c).2 := by
  have h4 := Shr.trans (Shr.trans (Shr.trans (shr_num l c) (shr_num _ _)) (shr_num _ _)) (shr_num _ _)
  unfold ackS spanS
  dsimp only
  split
  · exact Shr.trans (shr_less (h4.fail 7) _ _) (shr_more _ _ _ _ _)
  · exact Shr.trans (shr_less h4 _ _) (shr_more _ _ _ _ _)
theorem shr_fields (k : Nat) (l : List Nat) (c : Nat) : Shr l c (fieldsK k l c).2 := by
  have h1 := shr_num l c
  have h2 := Shr.trans h1 (shr_num _ _)
  have h3 := Shr.trans h2 (shr_num _ _)
  have d1 := Shr.trans h1 (shr_data _ _)
  have d2 : Shr l c (dataS (numS (numS l c).2.1 (numS l c).2.2).2.1 (if (numS (numS l c).2.1 (numS l c).2.2).1 = 0 then failS (numS (numS l c).2.1 (numS l c).2.2).2.2 5 else (numS (numS l c).2.1 (numS l c).2.2).2.2)).2 := by
    split
    · exact Shr.trans (h2.fail 5) (shr_data _ _)
    · exact Shr.trans h2 (shr_data _ _)
  unfold fieldsK
  by_cases c0 : k = 0 ∨ k = 1 ∨ k = 30
  · rw [if_pos c0]
    exact Shr.refl l c
  rw [if_neg c0]
  by_cases c2 : k = 2
  · rw [if_pos c2]
    exact shr_ack l c
  rw [if_neg c2]
  by_cases c4 : k = 4
  · rw [if_pos c4]
    exact h3
  rw [if_neg c4]
  by_cases c5 : k = 5
  · rw [if_pos c5]
    exact h2
  rw [if_neg c5]
  by_cases c6 : k = 6
  · rw [if_pos c6]
    exact d1
  rw [if_neg c6]
  by_cases c10 : k = 10 ∨ k = 11
  · rw [if_pos c10]
    exact d1
  rw [if_neg c10]
  by_cases c14 : k = 14 ∨ k = 15
  · rw [if_pos c14]
    exact d2
  rw [if_neg c14]
  by_cases c16 : k = 16 ∨ k = 18
  · rw [if_pos c16]
    exact h1
  rw [if_neg c16]
  by_cases c17 : k = 17
  · rw [if_pos c17]
    exact h2
  rw [if_neg c17]
  by_cases c28 : k = 28
  · rw [if_pos c28]
    exact d1
  rw [if_neg c28]
  exact (Shr.refl l c).fail 6
theorem shr_frame (l : List Nat) : Shr l 0 (frameS l).2 := by
  have h := Shr.trans (shr_num l 0) (shr_fields (numS l 0).1 _ _)
  unfold frameS
  dsimp only
  split
  · exact h.fail 2
  · exact h
theorem frame_strict {l : List Nat} (h : (frameS l).2.2 = 0) : (frameS l).2.1.length < l.length := by
  have hf := shr_fields (numS l 0).1 (numS l 0).2.1 (numS l 0).2.2
  have hz : (fieldsK (numS l 0).1 (numS l 0).2.1 (numS l 0).2.2).2.2 = 0 := by
    unfold frameS at h
    dsimp only at h
    split at h
    · exact failS_zero h
    · exact h
  have := num_strict (hf.zero hz)
  have e : (frameS l).2.1 = (fieldsK (numS l 0).1 (numS l 0).2.1 (numS l 0).2.2).2.1 := rfl
  rw [e]
  have := hf.len
  omega
/-- What the program's frame answers. -/
def FrPost (B : Nat) (p : Option Addr) (W : World) (F : Fr) (lr : List Nat) (cr : Nat) (e : Ending) (w' : World) : Prop := (∃ vd va, e = .returned (frV F vd va) ∧ OwL W.heap.size w' vd F.data ∧ OwS W.heap.size w' va F.acks) ∧ RM B w' p lr cr ∧ W.grownBy w' (some B)
theorem frame_m (B : Nat) (p : Option Addr) (l : List Nat) (W : World) (h : RM B W p l 0) (hB : B ≤ W.heap.size) :
    Calls Try.prog 27 #[.agg #[.pointer p]] W (FrPost B p W (frameS l).1 (frameS l).2.1 (frameS l).2.2) := by
  have hb := rm_bytes h
  obtain ⟨k, l1, c1, hz⟩ := num_all (l := l) (c := 0)
  have hk := num_small hb hz
  have hb1 : ∀ x ∈ l1, x < 256 := fun x hx => hb x ((shr_num l 0).mem x (by rw [hz]; exact hx))
  obtain ⟨z2, l2, c2, hz2⟩ := num_all (l := l1) (c := c1)
  have z2s := num_small hb1 hz2
  have hb2 : ∀ x ∈ l2, x < 256 := fun x hx => hb1 x ((shr_num l1 c1).mem x (by rw [hz2]; exact hx))
  obtain ⟨z3, l3, c3, hz3⟩ := num_all (l := l2) (c := c2)
  have z3s := num_small hb2 hz3
  obtain ⟨z4, l4, c4, hz4⟩ := num_all (l := l3) (c := c3)
  by_cases k0 : k = 0 ∨ k = 1 ∨ k = 30
  · rcases k0 with rfl | rfl | rfl
    · have hf : fieldsK 0 l1 c1 = (⟨0, 0, 0, 0, 0, false, [], []⟩, l1, c1) := by simp [fieldsK]
      rw [frameS_of hz hf]
      dsimp only
      rw [if_neg (by decide)]
      exact fr0 B p l l1 c1 hz W h hB
    · have hf : fieldsK 1 l1 c1 = (⟨1, 0, 0, 0, 0, false, [], []⟩, l1, c1) := by simp [fieldsK]
      rw [frameS_of hz hf]
      dsimp only
      rw [if_neg (by decide)]
      exact fr1 B p l l1 c1 hz W h hB
    · have hf : fieldsK 30 l1 c1 = (⟨30, 0, 0, 0, 0, false, [], []⟩, l1, c1) := by simp [fieldsK]
      rw [frameS_of hz hf]
      dsimp only
      rw [if_neg (by decide)]
      exact fr30 B p l l1 c1 hz W h hB
  by_cases k2 : k = 2
  · subst k2
    obtain ⟨F, lr, cr, hA⟩ : ∃ F lr cr, ackS l1 c1 = (F, lr, cr) := ⟨_, _, _, rfl⟩
    have hF : F = ⟨2, 0, 0, F.n, 0, false, [], F.acks⟩ := by
      have := congrArg (fun q => q.1) hA
      dsimp only at this
      rw [← this]
      rfl
    have hf : fieldsK 2 l1 c1 = (⟨2, 0, 0, F.n, 0, false, [], F.acks⟩, lr, cr) := by
      rw [show fieldsK 2 l1 c1 = ackS l1 c1 from rfl, hA, ← hF]
    rw [frameS_of hz hf]
    dsimp only
    rw [if_neg (by decide)]
    exact fr2 B p l l1 c1 hz F.n F.acks lr cr (by rw [hA, ← hF]) W h hB
  by_cases k4 : k = 4
  · subst k4
    have hf : fieldsK 4 l1 c1 = (⟨4, z2, 0, z4, z3, false, [], []⟩, l4, c4) := by simp [fieldsK, hz2, hz3, hz4]
    rw [frameS_of hz hf]
    dsimp only
    rw [if_neg (by decide)]
    exact fr4 B p l l1 c1 hz z2 l2 c2 hz2 z3 l3 c3 hz3 z4 l4 c4 hz4 W h hB
  by_cases k5 : k = 5
  · subst k5
    have hf : fieldsK 5 l1 c1 = (⟨5, z2, 0, 0, z3, false, [], []⟩, l3, c3) := by simp [fieldsK, hz2, hz3]
    rw [frameS_of hz hf]
    dsimp only
    rw [if_neg (by decide)]
    exact fr5 B p l l1 c1 hz z2 l2 c2 hz2 z3 l3 c3 hz3 W h hB
  by_cases k17 : k = 17
  · subst k17
    have hf : fieldsK 17 l1 c1 = (⟨17, z2, 0, z3, 0, false, [], []⟩, l3, c3) := by simp [fieldsK, hz2, hz3]
    rw [frameS_of hz hf]
    dsimp only
    rw [if_neg (by decide)]
    exact fr17 B p l l1 c1 hz z2 l2 c2 hz2 z3 l3 c3 hz3 W h hB
  by_cases k16 : k = 16 ∨ k = 18
  · rcases k16 with rfl | rfl
    · have hf : fieldsK 16 l1 c1 = (⟨16, 0, 0, z2, 0, false, [], []⟩, l2, c2) := by simp [fieldsK, hz2]
      rw [frameS_of hz hf]
      dsimp only
      rw [if_neg (by decide)]
      exact fr16 B p l l1 c1 hz z2 l2 c2 hz2 W h hB
    · have hf : fieldsK 18 l1 c1 = (⟨18, 0, 0, z2, 0, false, [], []⟩, l2, c2) := by simp [fieldsK, hz2]
      rw [frameS_of hz hf]
      dsimp only
      rw [if_neg (by decide)]
      exact fr18 B p l l1 c1 hz z2 l2 c2 hz2 W h hB
  obtain ⟨D, ld, cd, hD⟩ := data_all (l := l2) (c := c2)
  have dl := dataS_of hD
  by_cases k28 : k = 28
  · subst k28
    have hf : fieldsK 28 l1 c1 = (⟨28, 0, 0, 0, z2, false, D, []⟩, ld, cd) := by simp [fieldsK, hz2, hD]
    rw [frameS_of hz hf]
    dsimp only
    rw [if_neg (by omega)]
    exact fr28 B p l l1 c1 hz z2 l2 c2 hz2 D ld cd hD W h hB
  by_cases k6 : k = 6
  · subst k6
    have hf : fieldsK 6 l1 c1 = (⟨6, 0, z2, 0, 0, false, D, []⟩, ld, cd) := by simp [fieldsK, hz2, hD]
    rw [frameS_of hz hf]
    dsimp only
    by_cases hm : 4611686018427387903 < z2 + D.length
    · rw [if_pos hm]
      exact fr6e B p l l1 c1 hz z2 l2 c2 hz2 D ld cd hD z2s hm W h hB
    · rw [if_neg hm]
      exact fr6 B p l l1 c1 hz z2 l2 c2 hz2 D ld cd hD z2s hm W h hB
  by_cases k10 : k = 10 ∨ k = 11
  · rcases k10 with rfl | rfl
    · have hf : fieldsK 10 l1 c1 = (⟨8, z2, 0, 0, 0, false, D, []⟩, ld, cd) := by simp [fieldsK, hz2, hD]
      rw [frameS_of hz hf]
      dsimp only
      rw [if_neg (by omega)]
      exact fr10 B p l l1 c1 hz z2 l2 c2 hz2 D ld cd hD W h hB
    · have hf : fieldsK 11 l1 c1 = (⟨8, z2, 0, 0, 0, true, D, []⟩, ld, cd) := by simp [fieldsK, hz2, hD]
      rw [frameS_of hz hf]
      dsimp only
      rw [if_neg (by omega)]
      exact fr11 B p l l1 c1 hz z2 l2 c2 hz2 D ld cd hD W h hB
  by_cases k14 : k = 14 ∨ k = 15
  · by_cases z0 : z3 = 0
    · subst z0
      obtain ⟨E, le, ce, hE⟩ := data_all (l := l3) (c := failS c3 5)
      have el := dataS_of hE
      rcases k14 with rfl | rfl
      · have hf : fieldsK 14 l1 c1 = (⟨8, z2, 0, 0, 0, false, E, []⟩, le, ce) := by simp [fieldsK, hz2, hz3, hE]
        rw [frameS_of hz hf]
        dsimp only
        rw [if_neg (by omega)]
        exact fr14z B p l l1 c1 hz z2 l2 c2 hz2 l3 c3 hz3 E le ce hE W h hB
      · have hf : fieldsK 15 l1 c1 = (⟨8, z2, 0, 0, 0, true, E, []⟩, le, ce) := by simp [fieldsK, hz2, hz3, hE]
        rw [frameS_of hz hf]
        dsimp only
        rw [if_neg (by omega)]
        exact fr15z B p l l1 c1 hz z2 l2 c2 hz2 l3 c3 hz3 E le ce hE W h hB
    · obtain ⟨E, le, ce, hE⟩ := data_all (l := l3) (c := c3)
      rcases k14 with rfl | rfl
      · have hf : fieldsK 14 l1 c1 = (⟨8, z2, z3, 0, 0, false, E, []⟩, le, ce) := by simp [fieldsK, hz2, hz3, hE, z0]
        rw [frameS_of hz hf]
        dsimp only
        by_cases hm : 4611686018427387903 < z3 + E.length
        · rw [if_pos hm]
          exact fr14e B p l l1 c1 hz z2 l2 c2 hz2 z3 l3 c3 hz3 z0 E le ce hE z3s hm W h hB
        · rw [if_neg hm]
          exact fr14 B p l l1 c1 hz z2 l2 c2 hz2 z3 l3 c3 hz3 z0 E le ce hE z3s hm W h hB
      · have hf : fieldsK 15 l1 c1 = (⟨8, z2, z3, 0, 0, true, E, []⟩, le, ce) := by simp [fieldsK, hz2, hz3, hE, z0]
        rw [frameS_of hz hf]
        dsimp only
        by_cases hm : 4611686018427387903 < z3 + E.length
        · rw [if_pos hm]
          exact fr15e B p l l1 c1 hz z2 l2 c2 hz2 z3 l3 c3 hz3 z0 E le ce hE z3s hm W h hB
        · rw [if_neg hm]
          exact fr15 B p l l1 c1 hz z2 l2 c2 hz2 z3 l3 c3 hz3 z0 E le ce hE z3s hm W h hB
  have hf : fieldsK k l1 c1 = (⟨k, 0, 0, 0, 0, false, [], []⟩, l1, failS c1 6) := by
    unfold fieldsK
    rw [if_neg k0, if_neg k2, if_neg k4, if_neg k5, if_neg k6, if_neg k10, if_neg k14, if_neg k16, if_neg k17, if_neg k28]
  rw [frameS_of hz hf]
  dsimp only
  rw [if_neg (by decide)]
  exact frx B p l k l1 c1 hz hk ⟨k0, k2, k4, k5, k6, k10, k14, k16, k17, k28⟩ W h hB
end Go.Proofs.Ytdlhclakdllogaa
