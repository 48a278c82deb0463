/- Spans as arithmetic: what is in them, a number more. -/
import Derived.Carry
namespace Go.Proofs.Ytnahjmladhbmpaa

theorem getD_lt' {α} (l : List α) (i : Nat) (d : α) (h : i < l.length) : l.getD i d = l[i] := by simp [List.getD, h]
/-- A number is in one of the spans. -/
def memS (l : List (Nat × Nat)) (n : Nat) : Prop := ∃ p ∈ l, p.1 ≤ n ∧ n ≤ p.2
/-- Spans, the greatest first, apart from each other. -/
def WF : List (Nat × Nat) → Prop
  | [] => True
  | p :: l => p.1 ≤ p.2 ∧ (∀ q ∈ l, q.2 + 1 < p.1) ∧ WF l
theorem memS_nil (n : Nat) : ¬ memS [] n := fun ⟨_, h, _⟩ => by cases h
theorem memS_cons (p : Nat × Nat) (l : List (Nat × Nat)) (n : Nat) : memS (p :: l) n ↔ (p.1 ≤ n ∧ n ≤ p.2) ∨ memS l n := by
  unfold memS
  simp only [List.mem_cons, exists_eq_or_imp]
theorem memS_append (a b : List (Nat × Nat)) (n : Nat) : memS (a ++ b) n ↔ memS a n ∨ memS b n := by
  unfold memS
  simp only [List.mem_append]
  constructor
  · rintro ⟨p, h | h, q⟩
    · exact Or.inl ⟨p, h, q⟩
    · exact Or.inr ⟨p, h, q⟩
  · rintro (⟨p, h, q⟩ | ⟨p, h, q⟩)
    · exact ⟨p, Or.inl h, q⟩
    · exact ⟨p, Or.inr h, q⟩
theorem WF.lo_hi {l : List (Nat × Nat)} (h : WF l) : ∀ p ∈ l, p.1 ≤ p.2 := by
  induction l with
  | nil => intro p hp; cases hp
  | cons x l ih =>
    intro p hp
    rcases List.mem_cons.1 hp with rfl | hp
    · exact h.1
    · exact ih h.2.2 p hp
theorem WF.below {p : Nat × Nat} {l : List (Nat × Nat)} (h : WF (p :: l)) {n : Nat} (hn : memS l n) : n + 1 < p.1 := by
  obtain ⟨q, hq, _, h2⟩ := hn
  have := h.2.1 q hq
  omega
theorem WF.unique : ∀ (l m : List (Nat × Nat)), WF l → WF m → (∀ n, memS l n ↔ memS m n) → l = m
  | [], [], _, _, _ => rfl
  | [], q :: m, _, hm, h => absurd ((h q.1).2 ((memS_cons q m q.1).2 (Or.inl ⟨Nat.le_refl _, hm.1⟩))) (memS_nil _)
  | p :: l, [], hl, _, h => absurd ((h p.1).1 ((memS_cons p l p.1).2 (Or.inl ⟨Nat.le_refl _, hl.1⟩))) (memS_nil _)
  | p :: l, q :: m, hl, hm, h => by
    have a1 := (memS_cons q m p.2).1 ((h p.2).1 ((memS_cons p l p.2).2 (Or.inl ⟨hl.1, Nat.le_refl _⟩)))
    have a2 := (memS_cons p l q.2).1 ((h q.2).2 ((memS_cons q m q.2).2 (Or.inl ⟨hm.1, Nat.le_refl _⟩)))
    have b1 := hl.1
    have b2 := hm.1
    have e2 : p.2 = q.2 := by
      have c1 : p.2 ≤ q.2 := by
        rcases a1 with h1 | h1
        · exact h1.2
        · have := hm.below h1; omega
      have c2 : q.2 ≤ p.2 := by
        rcases a2 with h1 | h1
        · exact h1.2
        · have := hl.below h1; omega
      omega
    have e1 : p.1 = q.1 := by
      rcases Nat.lt_trichotomy p.1 q.1 with h1 | h1 | h1
      · have h2 := (memS_cons q m (q.1 - 1)).1 ((h (q.1 - 1)).1 ((memS_cons p l (q.1 - 1)).2 (Or.inl (by omega))))
        rcases h2 with h2 | h2
        · omega
        · have := hm.below h2; omega
      · exact h1
      · have h2 := (memS_cons p l (p.1 - 1)).1 ((h (p.1 - 1)).2 ((memS_cons q m (p.1 - 1)).2 (Or.inl (by omega))))
        rcases h2 with h2 | h2
        · omega
        · have := hl.below h2; omega
    have e : p = q := Prod.ext e1 e2
    subst e
    rw [WF.unique l m hl.2.2 hm.2.2 fun n => ?_]
    have hn := h n
    rw [memS_cons, memS_cons] at hn
    constructor
    · intro h1
      have h2 := hl.below h1
      rcases hn.1 (Or.inr h1) with h3 | h3
      · omega
      · exact h3
    · intro h1
      have h2 := hm.below h1
      rcases hn.2 (Or.inr h1) with h3 | h3
      · omega
      · exact h3

/-- How many spans are all above a number. -/
def placeS : List (Nat × Nat) → Nat → Nat
  | [], _ => 0
  | p :: l, n => if n < p.1 then placeS l n + 1 else 0
theorem placeS_le : ∀ (l : List (Nat × Nat)) (n : Nat), placeS l n ≤ l.length
  | [], _ => Nat.le_refl _
  | p :: l, n => by
    unfold placeS
    have := placeS_le l n
    split
    · simp only [List.length_cons]; omega
    · exact Nat.zero_le _
theorem placeS_above : ∀ (l : List (Nat × Nat)) (n i : Nat), i < placeS l n → n < (l.getD i (0, 0)).1
  | [], _, _, h => absurd h (Nat.not_lt_zero _)
  | p :: l, n, i, h => by
    unfold placeS at h
    split at h
    · cases i with
      | zero => simpa
      | succ i => simpa using placeS_above l n i (by omega)
    · exact absurd h (Nat.not_lt_zero _)
theorem placeS_at : ∀ (l : List (Nat × Nat)) (n : Nat), placeS l n < l.length → (l.getD (placeS l n) (0, 0)).1 ≤ n
  | [], _, h => absurd h (Nat.not_lt_zero _)
  | p :: l, n, h => by
    unfold placeS at h ⊢
    split
    · rename_i h1
      rw [if_pos h1] at h
      simpa using placeS_at l n (by simpa using h)
    · simp; omega
theorem placeS_is (l : List (Nat × Nat)) (n i : Nat) (hi : i ≤ l.length) (ha : ∀ j, j < i → n < (l.getD j (0, 0)).1) (hb : i < l.length → (l.getD i (0, 0)).1 ≤ n) : placeS l n = i := by
  have h1 := placeS_le l n
  rcases Nat.lt_trichotomy (placeS l n) i with h | h | h
  · have h2 := ha _ h
    have h3 := placeS_at l n (by omega)
    omega
  · exact h
  · have h2 := placeS_above l n i h
    have h3 := hb (by omega)
    omega
/-- Did a number come? -/
def hasS (l : List (Nat × Nat)) (fl n : Nat) : Bool := decide (n < fl) || (decide (placeS l n < l.length) && decide (n ≤ (l.getD (placeS l n) (0, 0)).2))
theorem memS_place : ∀ (l : List (Nat × Nat)) (n : Nat), WF l → (memS l n ↔ placeS l n < l.length ∧ n ≤ (l.getD (placeS l n) (0, 0)).2)
  | [], n, _ => by simp [memS, placeS]
  | p :: l, n, h => by
    rw [memS_cons]
    unfold placeS
    have hb := h.1
    by_cases h1 : n < p.1
    · rw [if_pos h1, memS_place l n h.2.2]
      simp
      omega
    · rw [if_neg h1]
      simp
      constructor
      · rintro (h2 | h2)
        · exact h2.2
        · have := h.below h2
          omega
      · intro h2
        exact Or.inl ⟨by omega, h2⟩
theorem hasS_iff (l : List (Nat × Nat)) (fl n : Nat) (h : WF l) : hasS l fl n = true ↔ n < fl ∨ memS l n := by
  unfold hasS
  rw [memS_place l n h]
  simp
/-- The spans with a number more, which isn't in them. -/
def insS : List (Nat × Nat) → Nat → List (Nat × Nat)
  | [], n => [(n, n)]
  | p :: l, n =>
    if p.1 ≤ n then if p.2 + 1 = n then (p.1, n) :: l else (n, n) :: p :: l
    else if p.1 = n + 1 then
      match l with
      | [] => [(n, p.2)]
      | q :: l' => if q.2 + 1 = n then (q.1, p.2) :: l' else (n, p.2) :: q :: l'
    else p :: insS l n
theorem insS_mem : ∀ (l : List (Nat × Nat)) (n : Nat), WF l → ∀ x, memS (insS l n) x ↔ memS l x ∨ x = n
  | [], n, _, x => by
    simp only [insS, memS_cons]
    have := memS_nil x
    simp only [this, or_false, false_or]
    omega
  | p :: l, n, h, x => by
    have h1 := h.1
    unfold insS
    by_cases c1 : p.1 ≤ n
    · rw [if_pos c1]
      by_cases c2 : p.2 + 1 = n
      · rw [if_pos c2, memS_cons, memS_cons]
        by_cases hm : memS l x <;> simp only [hm, or_true, true_or, or_false] <;> omega
      · rw [if_neg c2, memS_cons, memS_cons]
        by_cases hm : memS l x <;> simp only [hm, or_true, true_or, or_false] <;> omega
    · rw [if_neg c1]
      by_cases c2 : p.1 = n + 1
      · rw [if_pos c2]
        cases l with
        | nil =>
          simp only [memS_cons]
          have := memS_nil x
          simp only [this, or_false]
          omega
        | cons q l' =>
          have h2 := h.2.2.1
          have h3 := h.2.1 q (List.mem_cons_self ..)
          show memS (if q.2 + 1 = n then (q.1, p.2) :: l' else (n, p.2) :: q :: l') x ↔ _
          by_cases c3 : q.2 + 1 = n
          · rw [if_pos c3]
            simp only [memS_cons]
            by_cases hm : memS l' x <;> simp only [hm, or_true, true_or, or_false] <;> omega
          · rw [if_neg c3]
            simp only [memS_cons]
            by_cases hm : memS l' x <;> simp only [hm, or_true, true_or, or_false] <;> omega
      · rw [if_neg c2, memS_cons, memS_cons, insS_mem l n h.2.2 x, or_assoc]
theorem insS_wf : ∀ (l : List (Nat × Nat)) (n : Nat), WF l → ¬ memS l n → WF (insS l n)
  | [], n, _, _ => ⟨Nat.le_refl _, fun _ h => (by cases h), trivial⟩
  | p :: l, n, h, hn => by
    have h1 := h.1
    rw [memS_cons] at hn
    unfold insS
    by_cases c1 : p.1 ≤ n
    · rw [if_pos c1]
      by_cases c2 : p.2 + 1 = n
      · rw [if_pos c2]
        exact ⟨by show p.1 ≤ n; omega, h.2.1, h.2.2⟩
      · rw [if_neg c2]
        refine ⟨Nat.le_refl _, fun q hq => ?_, h⟩
        have h3 : ¬ n ≤ p.2 := fun h3 => hn (Or.inl ⟨c1, h3⟩)
        show q.2 + 1 < n
        rcases List.mem_cons.1 hq with rfl | hq
        · omega
        · have := h.2.1 q hq; omega
    · rw [if_neg c1]
      by_cases c2 : p.1 = n + 1
      · rw [if_pos c2]
        cases l with
        | nil => exact ⟨by show n ≤ p.2; omega, fun _ h => (by cases h), trivial⟩
        | cons q l' =>
          have h2 := h.2.2.1
          have h3 := h.2.1 q (List.mem_cons_self ..)
          show WF (if q.2 + 1 = n then (q.1, p.2) :: l' else (n, p.2) :: q :: l')
          by_cases c3 : q.2 + 1 = n
          · rw [if_pos c3]
            exact ⟨by show q.1 ≤ p.2; omega, h.2.2.2.1, h.2.2.2.2⟩
          · rw [if_neg c3]
            refine ⟨by show n ≤ p.2; omega, fun r hr => ?_, h.2.2⟩
            show r.2 + 1 < n
            rcases List.mem_cons.1 hr with rfl | hr
            · have := h.2.1 r (List.mem_cons_self ..); omega
            · have := h.2.2.2.1 r hr; omega
      · rw [if_neg c2]
        refine ⟨h1, fun q hq => ?_, insS_wf l n h.2.2 fun hm => hn (Or.inr hm)⟩
        have hw := insS_wf l n h.2.2 fun hm => hn (Or.inr hm)
        have hm : memS (insS l n) q.2 := ⟨q, hq, hw.lo_hi q hq, Nat.le_refl _⟩
        rcases (insS_mem l n h.2.2 q.2).1 hm with h4 | h4
        · exact h.below h4
        · omega
/-- The four ways in which a number comes, by its place. -/
def putW (l : List (Nat × Nat)) (n : Nat) : List (Nat × Nat) :=
  let i := placeS l n
  let above := decide (0 < i) && decide ((l.getD (i - 1) (0, 0)).1 = n + 1)
  let below := decide (i < l.length) && decide ((l.getD i (0, 0)).2 + 1 = n)
  if above && below then (l.set (i - 1) ((l.getD i (0, 0)).1, (l.getD (i - 1) (0, 0)).2)).eraseIdx i
  else if above then l.set (i - 1) (n, (l.getD (i - 1) (0, 0)).2)
  else if below then l.set i ((l.getD i (0, 0)).1, n)
  else l.insertIdx i (n, n)
theorem putW_ins : ∀ (l : List (Nat × Nat)) (n : Nat), WF l → putW l n = insS l n
  | [], n, _ => by simp [putW, insS, placeS]
  | p :: l, n, h => by
    have h1 := h.1
    have ih := putW_ins l n h.2.2
    unfold insS
    by_cases c1 : p.1 ≤ n
    · have c0 : ¬ n < p.1 := by omega
      rw [if_pos c1]
      simp only [putW, placeS, if_neg c0]
      by_cases c2 : p.2 + 1 = n <;> simp [c2]
    · have c0 : n < p.1 := by omega
      rw [if_neg c1]
      by_cases c2 : p.1 = n + 1
      · rw [if_pos c2]
        cases l with
        | nil => simp [putW, placeS, c2]
        | cons q l' =>
          have h2 := h.2.2.1
          have h3 := h.2.1 q (List.mem_cons_self ..)
          have c4 : ¬ n < q.1 := by omega
          simp only [putW, placeS, if_pos c0, if_neg c4]
          by_cases c3 : q.2 + 1 = n <;> simp [c2, c3]
      · rw [if_neg c2, ← ih]
        simp only [putW, placeS, if_pos c0]
        cases hp : placeS l n with
        | zero =>
          simp [c2]
          cases l with
          | nil => simp
          | cons q l' => by_cases c3 : q.2 + 1 = n <;> simp [c3]
        | succ k =>
          simp only [Nat.add_sub_cancel, List.getD_cons_succ, List.length_cons, Nat.add_lt_add_iff_right, Nat.zero_lt_succ, decide_true, Bool.true_and]
          by_cases d1 : (l.getD k (0, 0)).1 = n + 1 <;> by_cases d2 : k + 1 < l.length <;> by_cases d3 : (l.getD (k + 1) (0, 0)).2 + 1 = n <;> simp only [d1, d2, d3, decide_true, decide_false, Bool.and_true, Bool.and_false, if_true, if_false, Bool.false_eq_true, List.set_cons_succ, List.eraseIdx_cons_succ, List.insertIdx_succ_cons]
theorem insS_ne_nil : ∀ (l : List (Nat × Nat)) (n : Nat), insS l n ≠ []
  | [], n => by simp [insS]
  | p :: l, n => by
    unfold insS
    split
    · split <;> simp
    · split
      · cases l with
        | nil => simp
        | cons q l' =>
          simp only
          split <;> simp
      · simp
end Go.Proofs.Ytnahjmladhbmpaa
