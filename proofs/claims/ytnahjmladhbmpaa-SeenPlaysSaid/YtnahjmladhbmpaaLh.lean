/- Jobs of a drawn region, each with its own word: two to six of them. -/
import Derived.Test.YtnahjmladhbmpaaLg
import Derived.Laws.StructEq
namespace Go.Proofs.Ytnahjmladhbmpaa
open Go.RowKit
section
variable {P : Program} {md : Region.Mode} {ops : Array Oper} {Q : Exit → Act → World → Prop}

theorem wpAnyZ_jobs2 {S : World → Prop} {z fuel : Nat} {l : Array Bool} {a : Act} {w0 : World} (j1 : Job) (R1 : Value → World → Prop) (j2 : Job) (R2 : Value → World → Prop)
    (hok : jobsOk md ops l [j1, j2] = true) (hQ : ∀ c a d v w, Q (.panic c) a w → Q (.panic c) (a.put (some d) v) w) (hS : ∀ w w', S w → Below w.heap.size w w' → S w') (hS0 : S w0)
    (st1 : ∀ v w w', R1 v w → Below w.heap.size w w' → R1 v w') (h1 : JobAt P ops Q S a j1 R1) (st2 : ∀ v w w', R2 v w → Below w.heap.size w w' → R2 v w') (h2 : JobAt P ops Q S a j2 R2)
    (hend : ∀ v1 v2 (w : World), S w → Below w0.heap.size w0 w → R1 v1 w → R2 v2 w → (∀ g, blockOf v1 = some g → w0.heap.size ≤ g ∧ g < w.heap.size) → (∀ g, blockOf v2 = some g → w0.heap.size ≤ g ∧ g < w.heap.size) → ApartV v1 v2 →  wpAnyZ P md ops Q S z fuel (setAll [j1, j2] l) (((a).put (some j2.d) v2).put (some j1.d) v1) w) :
    wpAnyZ P md ops Q S z (2 + fuel) l a w0 := by
  have hok' := hok
  unfold jobsOk at hok'
  simp only [Bool.and_eq_true, decide_eq_true_eq] at hok'
  have hnd := hok'.2
  clear hok'
  have n1_2 : ¬ j1.i = j2.i := fun h => by simp [h] at hnd
  obtain ⟨Rf, hRf⟩ : ∃ Rf : Nat → Value → World → Prop, Rf = fun i => if i = j1.i then R1 else R2 := ⟨_, rfl⟩
  have e1 : Rf j1.i = R1 := by rw [hRf]; exact if_pos rfl
  have e2 : Rf j2.i = R2 := by rw [hRf]; exact (if_neg (Ne.symm n1_2)).trans (rfl)
  clear hRf
  refine wpAny_jobs [j1, j2] Rf fuel l a w0 hok hQ hS ?_ ?_ hS0 ?_
  · intro j hj
    simp only [List.mem_cons, List.not_mem_nil, or_false] at hj
    rcases hj with rfl | rfl
    · rw [e1]; exact st1
    · rw [e2]; exact st2
  · intro j hj
    simp only [List.mem_cons, List.not_mem_nil, or_false] at hj
    rcases hj with rfl | rfl
    · rw [e1]; exact h1
    · rw [e2]; exact h2
  · intro f w hSw hb hR hbl hap
    exact hend (f j1.i) (f j2.i) w hSw hb (e1 ▸ hR j1 (by simp)) (e2 ▸ hR j2 (by simp)) (hbl j1 (by simp)) (hbl j2 (by simp)) (hap j1 (by simp) j2 (by simp) n1_2)

theorem wpAnyZ_jobs3 {S : World → Prop} {z fuel : Nat} {l : Array Bool} {a : Act} {w0 : World} (j1 : Job) (R1 : Value → World → Prop) (j2 : Job) (R2 : Value → World → Prop) (j3 : Job) (R3 : Value → World → Prop)
    (hok : jobsOk md ops l [j1, j2, j3] = true) (hQ : ∀ c a d v w, Q (.panic c) a w → Q (.panic c) (a.put (some d) v) w) (hS : ∀ w w', S w → Below w.heap.size w w' → S w') (hS0 : S w0)
    (st1 : ∀ v w w', R1 v w → Below w.heap.size w w' → R1 v w') (h1 : JobAt P ops Q S a j1 R1) (st2 : ∀ v w w', R2 v w → Below w.heap.size w w' → R2 v w') (h2 : JobAt P ops Q S a j2 R2) (st3 : ∀ v w w', R3 v w → Below w.heap.size w w' → R3 v w') (h3 : JobAt P ops Q S a j3 R3)
    (hend : ∀ v1 v2 v3 (w : World), S w → Below w0.heap.size w0 w → R1 v1 w → R2 v2 w → R3 v3 w → (∀ g, blockOf v1 = some g → w0.heap.size ≤ g ∧ g < w.heap.size) → (∀ g, blockOf v2 = some g → w0.heap.size ≤ g ∧ g < w.heap.size) → (∀ g, blockOf v3 = some g → w0.heap.size ≤ g ∧ g < w.heap.size) → ApartV v1 v2 → ApartV v1 v3 → ApartV v2 v3 →  wpAnyZ P md ops Q S z fuel (setAll [j1, j2, j3] l) ((((a).put (some j3.d) v3).put (some j2.d) v2).put (some j1.d) v1) w) :
    wpAnyZ P md ops Q S z (3 + fuel) l a w0 := by
  have hok' := hok
  unfold jobsOk at hok'
  simp only [Bool.and_eq_true, decide_eq_true_eq] at hok'
  have hnd := hok'.2
  clear hok'
  have n1_2 : ¬ j1.i = j2.i := fun h => by simp [h] at hnd
  have n1_3 : ¬ j1.i = j3.i := fun h => by simp [h] at hnd
  have n2_3 : ¬ j2.i = j3.i := fun h => by simp [h] at hnd
  obtain ⟨Rf, hRf⟩ : ∃ Rf : Nat → Value → World → Prop, Rf = fun i => if i = j1.i then R1 else if i = j2.i then R2 else R3 := ⟨_, rfl⟩
  have e1 : Rf j1.i = R1 := by rw [hRf]; exact if_pos rfl
  have e2 : Rf j2.i = R2 := by rw [hRf]; exact (if_neg (Ne.symm n1_2)).trans (if_pos rfl)
  have e3 : Rf j3.i = R3 := by rw [hRf]; exact (if_neg (Ne.symm n1_3)).trans ((if_neg (Ne.symm n2_3)).trans (rfl))
  clear hRf
  refine wpAny_jobs [j1, j2, j3] Rf fuel l a w0 hok hQ hS ?_ ?_ hS0 ?_
  · intro j hj
    simp only [List.mem_cons, List.not_mem_nil, or_false] at hj
    rcases hj with rfl | rfl | rfl
    · rw [e1]; exact st1
    · rw [e2]; exact st2
    · rw [e3]; exact st3
  · intro j hj
    simp only [List.mem_cons, List.not_mem_nil, or_false] at hj
    rcases hj with rfl | rfl | rfl
    · rw [e1]; exact h1
    · rw [e2]; exact h2
    · rw [e3]; exact h3
  · intro f w hSw hb hR hbl hap
    exact hend (f j1.i) (f j2.i) (f j3.i) w hSw hb (e1 ▸ hR j1 (by simp)) (e2 ▸ hR j2 (by simp)) (e3 ▸ hR j3 (by simp)) (hbl j1 (by simp)) (hbl j2 (by simp)) (hbl j3 (by simp)) (hap j1 (by simp) j2 (by simp) n1_2) (hap j1 (by simp) j3 (by simp) n1_3) (hap j2 (by simp) j3 (by simp) n2_3)

theorem wpAnyZ_jobs4 {S : World → Prop} {z fuel : Nat} {l : Array Bool} {a : Act} {w0 : World} (j1 : Job) (R1 : Value → World → Prop) (j2 : Job) (R2 : Value → World → Prop) (j3 : Job) (R3 : Value → World → Prop) (j4 : Job) (R4 : Value → World → Prop)
    (hok : jobsOk md ops l [j1, j2, j3, j4] = true) (hQ : ∀ c a d v w, Q (.panic c) a w → Q (.panic c) (a.put (some d) v) w) (hS : ∀ w w', S w → Below w.heap.size w w' → S w') (hS0 : S w0)
    (st1 : ∀ v w w', R1 v w → Below w.heap.size w w' → R1 v w') (h1 : JobAt P ops Q S a j1 R1) (st2 : ∀ v w w', R2 v w → Below w.heap.size w w' → R2 v w') (h2 : JobAt P ops Q S a j2 R2) (st3 : ∀ v w w', R3 v w → Below w.heap.size w w' → R3 v w') (h3 : JobAt P ops Q S a j3 R3) (st4 : ∀ v w w', R4 v w → Below w.heap.size w w' → R4 v w') (h4 : JobAt P ops Q S a j4 R4)
    (hend : ∀ v1 v2 v3 v4 (w : World), S w → Below w0.heap.size w0 w → R1 v1 w → R2 v2 w → R3 v3 w → R4 v4 w → (∀ g, blockOf v1 = some g → w0.heap.size ≤ g ∧ g < w.heap.size) → (∀ g, blockOf v2 = some g → w0.heap.size ≤ g ∧ g < w.heap.size) → (∀ g, blockOf v3 = some g → w0.heap.size ≤ g ∧ g < w.heap.size) → (∀ g, blockOf v4 = some g → w0.heap.size ≤ g ∧ g < w.heap.size) → ApartV v1 v2 → ApartV v1 v3 → ApartV v1 v4 → ApartV v2 v3 → ApartV v2 v4 → ApartV v3 v4 →  wpAnyZ P md ops Q S z fuel (setAll [j1, j2, j3, j4] l) (((((a).put (some j4.d) v4).put (some j3.d) v3).put (some j2.d) v2).put (some j1.d) v1) w) :
    wpAnyZ P md ops Q S z (4 + fuel) l a w0 := by
  have hok' := hok
  unfold jobsOk at hok'
  simp only [Bool.and_eq_true, decide_eq_true_eq] at hok'
  have hnd := hok'.2
  clear hok'
  have n1_2 : ¬ j1.i = j2.i := fun h => by simp [h] at hnd
  have n1_3 : ¬ j1.i = j3.i := fun h => by simp [h] at hnd
  have n1_4 : ¬ j1.i = j4.i := fun h => by simp [h] at hnd
  have n2_3 : ¬ j2.i = j3.i := fun h => by simp [h] at hnd
  have n2_4 : ¬ j2.i = j4.i := fun h => by simp [h] at hnd
  have n3_4 : ¬ j3.i = j4.i := fun h => by simp [h] at hnd
  obtain ⟨Rf, hRf⟩ : ∃ Rf : Nat → Value → World → Prop, Rf = fun i => if i = j1.i then R1 else if i = j2.i then R2 else if i = j3.i then R3 else R4 := ⟨_, rfl⟩
  have e1 : Rf j1.i = R1 := by rw [hRf]; exact if_pos rfl
  have e2 : Rf j2.i = R2 := by rw [hRf]; exact (if_neg (Ne.symm n1_2)).trans (if_pos rfl)
  have e3 : Rf j3.i = R3 := by rw [hRf]; exact (if_neg (Ne.symm n1_3)).trans ((if_neg (Ne.symm n2_3)).trans (if_pos rfl))
  have e4 : Rf j4.i = R4 := by rw [hRf]; exact (if_neg (Ne.symm n1_4)).trans ((if_neg (Ne.symm n2_4)).trans ((if_neg (Ne.symm n3_4)).trans (rfl)))
  clear hRf
  refine wpAny_jobs [j1, j2, j3, j4] Rf fuel l a w0 hok hQ hS ?_ ?_ hS0 ?_
  · intro j hj
    simp only [List.mem_cons, List.not_mem_nil, or_false] at hj
    rcases hj with rfl | rfl | rfl | rfl
    · rw [e1]; exact st1
    · rw [e2]; exact st2
    · rw [e3]; exact st3
    · rw [e4]; exact st4
  · intro j hj
    simp only [List.mem_cons, List.not_mem_nil, or_false] at hj
    rcases hj with rfl | rfl | rfl | rfl
    · rw [e1]; exact h1
    · rw [e2]; exact h2
    · rw [e3]; exact h3
    · rw [e4]; exact h4
  · intro f w hSw hb hR hbl hap
    exact hend (f j1.i) (f j2.i) (f j3.i) (f j4.i) w hSw hb (e1 ▸ hR j1 (by simp)) (e2 ▸ hR j2 (by simp)) (e3 ▸ hR j3 (by simp)) (e4 ▸ hR j4 (by simp)) (hbl j1 (by simp)) (hbl j2 (by simp)) (hbl j3 (by simp)) (hbl j4 (by simp)) (hap j1 (by simp) j2 (by simp) n1_2) (hap j1 (by simp) j3 (by simp) n1_3) (hap j1 (by simp) j4 (by simp) n1_4) (hap j2 (by simp) j3 (by simp) n2_3) (hap j2 (by simp) j4 (by simp) n2_4) (hap j3 (by simp) j4 (by simp) n3_4)

theorem wpAnyZ_jobs5 {S : World → Prop} {z fuel : Nat} {l : Array Bool} {a : Act} {w0 : World} (j1 : Job) (R1 : Value → World → Prop) (j2 : Job) (R2 : Value → World → Prop) (j3 : Job) (R3 : Value → World → Prop) (j4 : Job) (R4 : Value → World → Prop) (j5 : Job) (R5 : Value → World → Prop)
    (hok : jobsOk md ops l [j1, j2, j3, j4, j5] = true) (hQ : ∀ c a d v w, Q (.panic c) a w → Q (.panic c) (a.put (some d) v) w) (hS : ∀ w w', S w → Below w.heap.size w w' → S w') (hS0 : S w0)
    (st1 : ∀ v w w', R1 v w → Below w.heap.size w w' → R1 v w') (h1 : JobAt P ops Q S a j1 R1) (st2 : ∀ v w w', R2 v w → Below w.heap.size w w' → R2 v w') (h2 : JobAt P ops Q S a j2 R2) (st3 : ∀ v w w', R3 v w → Below w.heap.size w w' → R3 v w') (h3 : JobAt P ops Q S a j3 R3) (st4 : ∀ v w w', R4 v w → Below w.heap.size w w' → R4 v w') (h4 : JobAt P ops Q S a j4 R4) (st5 : ∀ v w w', R5 v w → Below w.heap.size w w' → R5 v w') (h5 : JobAt P ops Q S a j5 R5)
    (hend : ∀ v1 v2 v3 v4 v5 (w : World), S w → Below w0.heap.size w0 w → R1 v1 w → R2 v2 w → R3 v3 w → R4 v4 w → R5 v5 w → (∀ g, blockOf v1 = some g → w0.heap.size ≤ g ∧ g < w.heap.size) → (∀ g, blockOf v2 = some g → w0.heap.size ≤ g ∧ g < w.heap.size) → (∀ g, blockOf v3 = some g → w0.heap.size ≤ g ∧ g < w.heap.size) → (∀ g, blockOf v4 = some g → w0.heap.size ≤ g ∧ g < w.heap.size) → (∀ g, blockOf v5 = some g → w0.heap.size ≤ g ∧ g < w.heap.size) → ApartV v1 v2 → ApartV v1 v3 → ApartV v1 v4 → ApartV v1 v5 → ApartV v2 v3 → ApartV v2 v4 → ApartV v2 v5 → ApartV v3 v4 → ApartV v3 v5 → ApartV v4 v5 →  wpAnyZ P md ops Q S z fuel (setAll [j1, j2, j3, j4, j5] l) ((((((a).put (some j5.d) v5).put (some j4.d) v4).put (some j3.d) v3).put (some j2.d) v2).put (some j1.d) v1) w) :
    wpAnyZ P md ops Q S z (5 + fuel) l a w0 := by
  have hok' := hok
  unfold jobsOk at hok'
  simp only [Bool.and_eq_true, decide_eq_true_eq] at hok'
  have hnd := hok'.2
  clear hok'
  have n1_2 : ¬ j1.i = j2.i := fun h => by simp [h] at hnd
  have n1_3 : ¬ j1.i = j3.i := fun h => by simp [h] at hnd
  have n1_4 : ¬ j1.i = j4.i := fun h => by simp [h] at hnd
  have n1_5 : ¬ j1.i = j5.i := fun h => by simp [h] at hnd
  have n2_3 : ¬ j2.i = j3.i := fun h => by simp [h] at hnd
  have n2_4 : ¬ j2.i = j4.i := fun h => by simp [h] at hnd
  have n2_5 : ¬ j2.i = j5.i := fun h => by simp [h] at hnd
  have n3_4 : ¬ j3.i = j4.i := fun h => by simp [h] at hnd
  have n3_5 : ¬ j3.i = j5.i := fun h => by simp [h] at hnd
  have n4_5 : ¬ j4.i = j5.i := fun h => by simp [h] at hnd
  obtain ⟨Rf, hRf⟩ : ∃ Rf : Nat → Value → World → Prop, Rf = fun i => if i = j1.i then R1 else if i = j2.i then R2 else if i = j3.i then R3 else if i = j4.i then R4 else R5 := ⟨_, rfl⟩
  have e1 : Rf j1.i = R1 := by rw [hRf]; exact if_pos rfl
  have e2 : Rf j2.i = R2 := by rw [hRf]; exact (if_neg (Ne.symm n1_2)).trans (if_pos rfl)
  have e3 : Rf j3.i = R3 := by rw [hRf]; exact (if_neg (Ne.symm n1_3)).trans ((if_neg (Ne.symm n2_3)).trans (if_pos rfl))
  have e4 : Rf j4.i = R4 := by rw [hRf]; exact (if_neg (Ne.symm n1_4)).trans ((if_neg (Ne.symm n2_4)).trans ((if_neg (Ne.symm n3_4)).trans (if_pos rfl)))
  have e5 : Rf j5.i = R5 := by rw [hRf]; exact (if_neg (Ne.symm n1_5)).trans ((if_neg (Ne.symm n2_5)).trans ((if_neg (Ne.symm n3_5)).trans ((if_neg (Ne.symm n4_5)).trans (rfl))))
  clear hRf
  refine wpAny_jobs [j1, j2, j3, j4, j5] Rf fuel l a w0 hok hQ hS ?_ ?_ hS0 ?_
  · intro j hj
    simp only [List.mem_cons, List.not_mem_nil, or_false] at hj
    rcases hj with rfl | rfl | rfl | rfl | rfl
    · rw [e1]; exact st1
    · rw [e2]; exact st2
    · rw [e3]; exact st3
    · rw [e4]; exact st4
    · rw [e5]; exact st5
  · intro j hj
    simp only [List.mem_cons, List.not_mem_nil, or_false] at hj
    rcases hj with rfl | rfl | rfl | rfl | rfl
    · rw [e1]; exact h1
    · rw [e2]; exact h2
    · rw [e3]; exact h3
    · rw [e4]; exact h4
    · rw [e5]; exact h5
  · intro f w hSw hb hR hbl hap
    exact hend (f j1.i) (f j2.i) (f j3.i) (f j4.i) (f j5.i) w hSw hb (e1 ▸ hR j1 (by simp)) (e2 ▸ hR j2 (by simp)) (e3 ▸ hR j3 (by simp)) (e4 ▸ hR j4 (by simp)) (e5 ▸ hR j5 (by simp)) (hbl j1 (by simp)) (hbl j2 (by simp)) (hbl j3 (by simp)) (hbl j4 (by simp)) (hbl j5 (by simp)) (hap j1 (by simp) j2 (by simp) n1_2) (hap j1 (by simp) j3 (by simp) n1_3) (hap j1 (by simp) j4 (by simp) n1_4) (hap j1 (by simp) j5 (by simp) n1_5) (hap j2 (by simp) j3 (by simp) n2_3) (hap j2 (by simp) j4 (by simp) n2_4) (hap j2 (by simp) j5 (by simp) n2_5) (hap j3 (by simp) j4 (by simp) n3_4) (hap j3 (by simp) j5 (by simp) n3_5) (hap j4 (by simp) j5 (by simp) n4_5)

theorem wpAnyZ_jobs6 {S : World → Prop} {z fuel : Nat} {l : Array Bool} {a : Act} {w0 : World} (j1 : Job) (R1 : Value → World → Prop) (j2 : Job) (R2 : Value → World → Prop) (j3 : Job) (R3 : Value → World → Prop) (j4 : Job) (R4 : Value → World → Prop) (j5 : Job) (R5 : Value → World → Prop) (j6 : Job) (R6 : Value → World → Prop)
    (hok : jobsOk md ops l [j1, j2, j3, j4, j5, j6] = true) (hQ : ∀ c a d v w, Q (.panic c) a w → Q (.panic c) (a.put (some d) v) w) (hS : ∀ w w', S w → Below w.heap.size w w' → S w') (hS0 : S w0)
    (st1 : ∀ v w w', R1 v w → Below w.heap.size w w' → R1 v w') (h1 : JobAt P ops Q S a j1 R1) (st2 : ∀ v w w', R2 v w → Below w.heap.size w w' → R2 v w') (h2 : JobAt P ops Q S a j2 R2) (st3 : ∀ v w w', R3 v w → Below w.heap.size w w' → R3 v w') (h3 : JobAt P ops Q S a j3 R3) (st4 : ∀ v w w', R4 v w → Below w.heap.size w w' → R4 v w') (h4 : JobAt P ops Q S a j4 R4) (st5 : ∀ v w w', R5 v w → Below w.heap.size w w' → R5 v w') (h5 : JobAt P ops Q S a j5 R5) (st6 : ∀ v w w', R6 v w → Below w.heap.size w w' → R6 v w') (h6 : JobAt P ops Q S a j6 R6)
    (hend : ∀ v1 v2 v3 v4 v5 v6 (w : World), S w → Below w0.heap.size w0 w → R1 v1 w → R2 v2 w → R3 v3 w → R4 v4 w → R5 v5 w → R6 v6 w → (∀ g, blockOf v1 = some g → w0.heap.size ≤ g ∧ g < w.heap.size) → (∀ g, blockOf v2 = some g → w0.heap.size ≤ g ∧ g < w.heap.size) → (∀ g, blockOf v3 = some g → w0.heap.size ≤ g ∧ g < w.heap.size) → (∀ g, blockOf v4 = some g → w0.heap.size ≤ g ∧ g < w.heap.size) → (∀ g, blockOf v5 = some g → w0.heap.size ≤ g ∧ g < w.heap.size) → (∀ g, blockOf v6 = some g → w0.heap.size ≤ g ∧ g < w.heap.size) → ApartV v1 v2 → ApartV v1 v3 → ApartV v1 v4 → ApartV v1 v5 → ApartV v1 v6 → ApartV v2 v3 → ApartV v2 v4 → ApartV v2 v5 → ApartV v2 v6 → ApartV v3 v4 → ApartV v3 v5 → ApartV v3 v6 → ApartV v4 v5 → ApartV v4 v6 → ApartV v5 v6 →  wpAnyZ P md ops Q S z fuel (setAll [j1, j2, j3, j4, j5, j6] l) (((((((a).put (some j6.d) v6).put (some j5.d) v5).put (some j4.d) v4).put (some j3.d) v3).put (some j2.d) v2).put (some j1.d) v1) w) :
    wpAnyZ P md ops Q S z (6 + fuel) l a w0 := by
  have hok' := hok
  unfold jobsOk at hok'
  simp only [Bool.and_eq_true, decide_eq_true_eq] at hok'
  have hnd := hok'.2
  clear hok'
  have n1_2 : ¬ j1.i = j2.i := fun h => by simp [h] at hnd
  have n1_3 : ¬ j1.i = j3.i := fun h => by simp [h] at hnd
  have n1_4 : ¬ j1.i = j4.i := fun h => by simp [h] at hnd
  have n1_5 : ¬ j1.i = j5.i := fun h => by simp [h] at hnd
  have n1_6 : ¬ j1.i = j6.i := fun h => by simp [h] at hnd
  have n2_3 : ¬ j2.i = j3.i := fun h => by simp [h] at hnd
  have n2_4 : ¬ j2.i = j4.i := fun h => by simp [h] at hnd
  have n2_5 : ¬ j2.i = j5.i := fun h => by simp [h] at hnd
  have n2_6 : ¬ j2.i = j6.i := fun h => by simp [h] at hnd
  have n3_4 : ¬ j3.i = j4.i := fun h => by simp [h] at hnd
  have n3_5 : ¬ j3.i = j5.i := fun h => by simp [h] at hnd
  have n3_6 : ¬ j3.i = j6.i := fun h => by simp [h] at hnd
  have n4_5 : ¬ j4.i = j5.i := fun h => by simp [h] at hnd
  have n4_6 : ¬ j4.i = j6.i := fun h => by simp [h] at hnd
  have n5_6 : ¬ j5.i = j6.i := fun h => by simp [h] at hnd
  obtain ⟨Rf, hRf⟩ : ∃ Rf : Nat → Value → World → Prop, Rf = fun i => if i = j1.i then R1 else if i = j2.i then R2 else if i = j3.i then R3 else if i = j4.i then R4 else if i = j5.i then R5 else R6 := ⟨_, rfl⟩
  have e1 : Rf j1.i = R1 := by rw [hRf]; exact if_pos rfl
  have e2 : Rf j2.i = R2 := by rw [hRf]; exact (if_neg (Ne.symm n1_2)).trans (if_pos rfl)
  have e3 : Rf j3.i = R3 := by rw [hRf]; exact (if_neg (Ne.symm n1_3)).trans ((if_neg (Ne.symm n2_3)).trans (if_pos rfl))
  have e4 : Rf j4.i = R4 := by rw [hRf]; exact (if_neg (Ne.symm n1_4)).trans ((if_neg (Ne.symm n2_4)).trans ((if_neg (Ne.symm n3_4)).trans (if_pos rfl)))
  have e5 : Rf j5.i = R5 := by rw [hRf]; exact (if_neg (Ne.symm n1_5)).trans ((if_neg (Ne.symm n2_5)).trans ((if_neg (Ne.symm n3_5)).trans ((if_neg (Ne.symm n4_5)).trans (if_pos rfl))))
  have e6 : Rf j6.i = R6 := by rw [hRf]; exact (if_neg (Ne.symm n1_6)).trans ((if_neg (Ne.symm n2_6)).trans ((if_neg (Ne.symm n3_6)).trans ((if_neg (Ne.symm n4_6)).trans ((if_neg (Ne.symm n5_6)).trans (rfl)))))
  clear hRf
  refine wpAny_jobs [j1, j2, j3, j4, j5, j6] Rf fuel l a w0 hok hQ hS ?_ ?_ hS0 ?_
  · intro j hj
    simp only [List.mem_cons, List.not_mem_nil, or_false] at hj
    rcases hj with rfl | rfl | rfl | rfl | rfl | rfl
    · rw [e1]; exact st1
    · rw [e2]; exact st2
    · rw [e3]; exact st3
    · rw [e4]; exact st4
    · rw [e5]; exact st5
    · rw [e6]; exact st6
  · intro j hj
    simp only [List.mem_cons, List.not_mem_nil, or_false] at hj
    rcases hj with rfl | rfl | rfl | rfl | rfl | rfl
    · rw [e1]; exact h1
    · rw [e2]; exact h2
    · rw [e3]; exact h3
    · rw [e4]; exact h4
    · rw [e5]; exact h5
    · rw [e6]; exact h6
  · intro f w hSw hb hR hbl hap
    exact hend (f j1.i) (f j2.i) (f j3.i) (f j4.i) (f j5.i) (f j6.i) w hSw hb (e1 ▸ hR j1 (by simp)) (e2 ▸ hR j2 (by simp)) (e3 ▸ hR j3 (by simp)) (e4 ▸ hR j4 (by simp)) (e5 ▸ hR j5 (by simp)) (e6 ▸ hR j6 (by simp)) (hbl j1 (by simp)) (hbl j2 (by simp)) (hbl j3 (by simp)) (hbl j4 (by simp)) (hbl j5 (by simp)) (hbl j6 (by simp)) (hap j1 (by simp) j2 (by simp) n1_2) (hap j1 (by simp) j3 (by simp) n1_3) (hap j1 (by simp) j4 (by simp) n1_4) (hap j1 (by simp) j5 (by simp) n1_5) (hap j1 (by simp) j6 (by simp) n1_6) (hap j2 (by simp) j3 (by simp) n2_3) (hap j2 (by simp) j4 (by simp) n2_4) (hap j2 (by simp) j5 (by simp) n2_5) (hap j2 (by simp) j6 (by simp) n2_6) (hap j3 (by simp) j4 (by simp) n3_4) (hap j3 (by simp) j5 (by simp) n3_5) (hap j3 (by simp) j6 (by simp) n3_6) (hap j4 (by simp) j5 (by simp) n4_5) (hap j4 (by simp) j6 (by simp) n4_6) (hap j5 (by simp) j6 (by simp) n5_6)

/-- A call whose contract is met in every world that keeps S is a job. -/
theorem blockOf_agg (cs : Array Value) : ∀ g, blockOf (.agg cs) = some g → False := fun g h => by cases h
theorem blockOf_slice (a : Option Addr) (n c : Nat) : ∀ g, blockOf (.slice a n c) = some g → False := fun g h => by cases h
/-- A whole row stored, as the one operation that may come up. -/
theorem wpAnyZ_store_row {S : World → Prop} {z fuel : Nat} {listed : Array Bool} {a : Act} {w : World} (i : Nat) {oi : Oper} (hi : ops.toList[i]? = some oi) (hr : Region.ready md ops listed = [i]) (hgd : oi.guard = none)
    (ty : TypeId) (x y : Operand) (ho : oi.op = .store ty x y) (g : Nat) (cells : Array Value) (hx : a.eval x = .pointer (some ⟨g, 0, none⟩)) (hy : a.eval y = .agg cells)
    (t : TypeId) (old : Array Value) (hg : Blk w g t old) (hinf : (P.info? ty).map (·.size) = some cells.size) (hold : old.size = cells.size) (h1 : cells.all (·.oneCell') = true) (hS : S (w.setRow g cells))
    (h : wpAnyZ P md ops Q S z fuel (listed.setIfInBounds i true) (a.put oi.dst undef) (w.setRow g cells)) : wpAnyZ P md ops Q S z (fuel + 1) listed a w := by
  refine wpAnyZ_one hr ?_
  unfold wpOp
  rw [← Array.getElem?_toList, hi]
  have hw : Region.wanted oi (yielded ops a.tmps) = true := by simp [Region.wanted, hgd]
  simp only [hw, if_true]
  left
  exact wp_store_row ty x y ho g cells hx hy t old hg hinf hold h1 ⟨fun _ => hS, h⟩
/-- Two rows held against each other, as an operation read first. -/
theorem yieldsIf_eql {S : World → Prop} {o : Oper} {a : Act} (hgd : Region.wanted o (yielded ops a.tmps) = true) (t u : TypeId) (x y : Operand) (ho : o.op = .binOp .eql t x y u) (xs ys : Array Value) (hx : a.eval x = .agg xs) (hy : a.eval y = .agg ys)
    (hm : P.eqGuardType P.depth t = false) (b : Bool) (hrun : ∀ w, (binOp .eql t (.agg xs) (.agg ys)).run P w = .ok (.bool b) w) : YieldsIf P ops S o (.bool b) a := by
  refine Or.inl ⟨hgd, fun w _ => ?_⟩
  simp only [execOp, ho, hx, hy, Sem.run_bind, Sem.run_pure, Result.andThen_ok, run_eqGuard_agg (hm := hm), hrun]
/-- A copy, as an operation read first. -/
theorem yieldsIf_move {S : World → Prop} {o : Oper} {a : Act} (hgd : Region.wanted o (yielded ops a.tmps) = true) (x : Operand) (ho : o.op = .move x) (v : Value) (hx : a.eval x = v) : YieldsIf P ops S o v a :=
  Or.inl ⟨hgd, fun w _ => by simp only [execOp, ho, hx, Sem.run_pure]⟩
/-- A pick, as an operation read first. -/
theorem yieldsIf_pick {S : World → Prop} {o : Oper} {a : Act} (hgd : Region.wanted o (yielded ops a.tmps) = true) (c x y : Operand) (ho : o.op = .pick c x y) (b : Bool) (hc : a.eval c = .bool b) (v : Value) (hv : a.eval (if b then x else y) = v) : YieldsIf P ops S o v a := by
  refine Or.inl ⟨hgd, fun w _ => ?_⟩
  simp only [execOp, ho, hc, asBool, Sem.run_bind, Sem.run_pure, Result.andThen_ok]
  subst hv
  cases b <;> rfl
end


end Go.Proofs.Ytnahjmladhbmpaa
