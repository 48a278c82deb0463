/- Numbers with gaps, numbers in a row, as arithmetic. -/
import Derived.Test.YtnahjmladhbmpaaSb
namespace Go.Proofs.Ytnahjmladhbmpaa

theorem insS_top (l : List (Nat × Nat)) (n : Nat) (h : ∀ p ∈ l, p.2 + 1 < n) (hw : WF l) : insS l n = (n, n) :: l := by
  cases l with
  | nil => rfl
  | cons p l =>
    have h1 := h p (List.mem_cons_self ..)
    have h2 := hw.1
    unfold insS
    rw [if_pos (by omega), if_neg (by omega)]
theorem insS_length : ∀ (l : List (Nat × Nat)) (n : Nat), (insS l n).length ≤ l.length + 1
  | [], n => Nat.le_refl _
  | p :: l, n => by
    unfold insS
    have ih := insS_length l n
    split
    · split <;> simp
    · split
      · cases l with
        | nil => simp
        | cons q l' =>
          show (if q.2 + 1 = n then (q.1, p.2) :: l' else (n, p.2) :: q :: l').length ≤ _
          split <;> simp
      · simpa using ih
/-! ### Numbers with gaps -/
/-- What is kept of k numbers with a gap between each. -/
def gapL (f k : Nat) : List (Nat × Nat) := (List.range (min k 32)).map fun j => (f + 2 * (k - 1 - j), f + 2 * (k - 1 - j))
def gapF (f k : Nat) : Nat := if k ≤ 32 then 0 else f + 2 * (k - 32)
theorem gapL_length (f k : Nat) : (gapL f k).length = min k 32 := by simp [gapL]
theorem gapL_get (f k i : Nat) (h : i < min k 32) : (gapL f k).getD i (0, 0) = (f + 2 * (k - 1 - i), f + 2 * (k - 1 - i)) := by
  rw [getD_lt' _ _ _ (by rw [gapL_length]; exact h)]
  simp [gapL]
theorem gapL_cons (f k : Nat) : (f + 2 * k, f + 2 * k) :: gapL f k = (List.range (min k 32 + 1)).map fun j => (f + 2 * (k + 1 - 1 - j), f + 2 * (k + 1 - 1 - j)) := by
  rw [List.range_succ_eq_map, List.map_cons, List.map_map]
  unfold gapL
  congr 1
  apply List.map_congr_left
  intro j _
  simp only [Function.comp]
  rw [show k + 1 - 1 - j.succ = k - 1 - j by omega]
theorem gap_put (f k : Nat) (hf : f < 4294967296) (hk : k ≤ 300) (hS : Sn (gapL f k) (gapF f k)) : okS (gapL f k) (gapF f k) (f + 2 * k) = true ∧ putS (gapL f k) (gapF f k) (f + 2 * k) = (gapL f (k + 1), gapF f (k + 1)) := by
  have hlow : ∀ p ∈ gapL f k, p.2 + 1 < f + 2 * k := fun p hp => by
    unfold gapL at hp
    obtain ⟨j, hj, rfl⟩ := List.mem_map.1 hp
    have := List.mem_range.1 hj
    show f + 2 * (k - 1 - j) + 1 < f + 2 * k
    omega
  have ho : okS (gapL f k) (gapF f k) (f + 2 * k) = true := by
    rw [okS_iff hS.wf]
    refine ⟨by omega, ?_, fun ⟨p, hp, _, h2⟩ => ?_⟩
    · unfold gapF
      split <;> omega
    · have := hlow p hp; omega
  refine ⟨ho, ?_⟩
  unfold putS putT
  rw [if_pos ho, insS_top _ _ hlow hS.wf]
  rw [gapL_cons]
  have e : ((List.range (min k 32 + 1)).map fun j => (f + 2 * (k + 1 - 1 - j), f + 2 * (k + 1 - 1 - j))).length = min k 32 + 1 := by simp
  by_cases h32 : k < 32
  · rw [if_neg (by rw [e]; omega)]
    unfold gapF gapL
    rw [if_pos (by omega), if_pos (by omega), show min k 32 + 1 = min (k + 1) 32 by omega]
  · rw [if_pos (by rw [e]; omega)]
    unfold gapF gapL
    have e1 : min k 32 = 32 := by omega
    have e2 : min (k + 1) 32 = 32 := by omega
    rw [e1, e2, if_neg (by omega)]
    have e3 : ((List.range (32 + 1)).map fun j => (f + 2 * (k + 1 - 1 - j), f + 2 * (k + 1 - 1 - j))).take 32 = (List.range 32).map fun j => (f + 2 * (k + 1 - 1 - j), f + 2 * (k + 1 - 1 - j)) := by
      rw [← List.map_take, List.take_range]
      rfl
    have e4 : (((List.range (32 + 1)).map fun j => (f + 2 * (k + 1 - 1 - j), f + 2 * (k + 1 - 1 - j))).getD 31 (0, 0)).1 = f + 2 * (k + 1 - 32) := by
      rw [getD_lt' _ _ _ (by simp)]
      simp
    rw [e3, e4]
theorem gap_sn (f k : Nat) (hf : f < 4294967296) (hk : k ≤ 300) : Sn (gapL f k) (gapF f k) := by
  induction k with
  | zero => exact Sn.nil
  | succ k ih =>
    have h1 := ih (by omega)
    have h2 := gap_put f k hf (by omega) h1
    have h3 := putS_sn (n := f + 2 * k) h1
    rw [h2.2] at h3
    exact h3
theorem gap_has (f : Nat) (hf : f < 4294967296) : ∀ (k i : Nat), k ≤ 300 → i < k → hasS (gapL f k) (gapF f k) (f + 2 * i) = true
  | 0, _, _, h => absurd h (Nat.not_lt_zero _)
  | k + 1, i, hk, hi => by
    have h1 := gap_sn f k hf (by omega)
    have h2 := gap_put f k hf (by omega) h1
    by_cases h : i = k
    · subst h
      have := putS_new h1 h2.1
      rwa [h2.2] at this
    · have := putS_has (n := f + 2 * k) h1 (gap_has f hf k i (by omega) (by omega))
      rwa [h2.2] at this
theorem gap_no (f k i : Nat) (hf : f < 4294967296) (hk : k ≤ 300) (hi : i < k) : okS (gapL f k) (gapF f k) (f + 2 * i) = false ∧ putS (gapL f k) (gapF f k) (f + 2 * i) = (gapL f k, gapF f k) := by
  have ho : okS (gapL f k) (gapF f k) (f + 2 * i) = false := by
    unfold okS
    rw [gap_has f hf k i hk hi]
    simp
  refine ⟨ho, ?_⟩
  unfold putS
  rw [ho]
  rfl
/-! ### Numbers in a row -/
/-- Which number comes i-th. -/
def rowK (s m i : Nat) : Nat := if s % 2 = 1 ∧ i % 2 = 1 then m - 1 - i / 2 else if s % 2 = 1 then i / 2 else (i + s) % m
theorem rowK_lt (s m i : Nat) (hm : 0 < m) (hi : i < m) : rowK s m i < m := by
  unfold rowK
  split
  · omega
  · split
    · omega
    · exact Nat.mod_lt _ hm
theorem mod_two (m r i : Nat) (hr : r < m) (hi : i < m) : (i + r) % m = if i + r < m then i + r else i + r - m := by
  split
  · rename_i h
    exact Nat.mod_eq_of_lt h
  · rw [Nat.mod_eq_sub_mod (by omega)]
    exact Nat.mod_eq_of_lt (by omega)
theorem rowK_even (s m i : Nat) (hm : 0 < m) (hi : i < m) : (i + s) % m = if i + s % m < m then i + s % m else i + s % m - m := by
  rw [← mod_two m (s % m) i (Nat.mod_lt _ hm) hi, Nat.add_mod_mod]
theorem rowK_inj (s m i j : Nat) (hi : i < m) (hj : j < m) (h : rowK s m i = rowK s m j) : i = j := by
  have hm : 0 < m := by omega
  unfold rowK at h
  rcases Nat.mod_two_eq_zero_or_one s with hs | hs
  · simp only [hs] at h
    rw [if_neg (by omega), if_neg (by omega), if_neg (by omega), if_neg (by omega), rowK_even s m i hm hi, rowK_even s m j hm hj] at h
    have hr := Nat.mod_lt s hm
    generalize s % m = r at *
    split at h <;> split at h <;> omega
  · simp only [hs, true_and, if_true] at h
    split at h <;> split at h <;> omega
theorem rowK_onto (s m x : Nat) (hx : x < m) : ∃ i, i < m ∧ rowK s m i = x := by
  have hm : 0 < m := by omega
  unfold rowK
  rcases Nat.mod_two_eq_zero_or_one s with hs | hs
  · have hr := Nat.mod_lt s hm
    refine ⟨if s % m ≤ x then x - s % m else x + m - s % m, by split <;> omega, ?_⟩
    rw [if_neg (by omega), if_neg (by omega), rowK_even s m _ hm (by split <;> omega)]
    generalize s % m = r at *
    split <;> split <;> omega
  · by_cases h : 2 * x < m
    · exact ⟨2 * x, h, by rw [if_neg (by omega), if_pos hs]; omega⟩
    · exact ⟨2 * (m - 1 - x) + 1, by omega, by rw [if_pos (by omega)]; omega⟩
/-- What is kept behind i numbers of a row. -/
def rowL (f s m : Nat) : Nat → List (Nat × Nat)
  | 0 => []
  | i + 1 => insS (rowL f s m i) (f + rowK s m i)
theorem rowL_ok (f s m : Nat) (hf : f < 2305843009213693952) (hm : m ≤ 30) : ∀ (i : Nat), i ≤ m → Sn (rowL f s m i) 0 ∧ (rowL f s m i).length ≤ i ∧ ∀ x, memS (rowL f s m i) x ↔ ∃ j, j < i ∧ x = f + rowK s m j
  | 0, _ => ⟨Sn.nil, Nat.le_refl _, fun x => by simp [rowL, memS]⟩
  | i + 1, hi => by
    obtain ⟨h1, h2, h3⟩ := rowL_ok f s m hf hm i (by omega)
    have hn : ¬ memS (rowL f s m i) (f + rowK s m i) := fun h => by
      obtain ⟨j, hj, e⟩ := (h3 _).1 h
      have := rowK_inj s m i j (by omega) (by omega) (by omega)
      omega
    have hk := rowK_lt s m i (by omega) (by omega)
    have hl := insS_length (rowL f s m i) (f + rowK s m i)
    have hmm := insS_mem _ (f + rowK s m i) h1.wf
    have hw := insS_wf _ _ h1.wf hn
    show Sn (insS (rowL f s m i) (f + rowK s m i)) 0 ∧ (insS (rowL f s m i) (f + rowK s m i)).length ≤ i + 1 ∧ ∀ x, memS (insS (rowL f s m i) (f + rowK s m i)) x ↔ _
    refine ⟨⟨hw, by omega, fun _ _ => Nat.zero_le _, fun p hp => ?_, Nat.zero_le _⟩, by omega, fun x => ?_⟩
    · rcases (hmm _).1 (hw.hi_mem hp) with h4 | h4
      · exact memS_le h1.top h4
      · omega
    · rw [hmm x, h3 x]
      constructor
      · rintro (⟨j, hj, e⟩ | e)
        · exact ⟨j, by omega, e⟩
        · exact ⟨i, by omega, e⟩
      · rintro ⟨j, hj, e⟩
        by_cases hji : j = i
        · subst hji; exact Or.inr e
        · exact Or.inl ⟨j, by omega, e⟩
theorem row_put (f s m i : Nat) (hf : f < 2305843009213693952) (hm : m ≤ 30) (hi : i < m) : okS (rowL f s m i) 0 (f + rowK s m i) = true ∧ putS (rowL f s m i) 0 (f + rowK s m i) = (rowL f s m (i + 1), 0) := by
  obtain ⟨h1, h2, h3⟩ := rowL_ok f s m hf hm i (by omega)
  have hk := rowK_lt s m i (by omega) (by omega)
  have ho : okS (rowL f s m i) 0 (f + rowK s m i) = true := by
    rw [okS_iff h1.wf]
    refine ⟨by omega, Nat.zero_le _, fun h => ?_⟩
    obtain ⟨j, hj, e⟩ := (h3 _).1 h
    have := rowK_inj s m i j (by omega) (by omega) (by omega)
    omega
  refine ⟨ho, ?_⟩
  have hl := insS_length (rowL f s m i) (f + rowK s m i)
  unfold putS putT
  rw [if_pos ho, if_neg (by omega)]
  rfl
theorem row_all (f s m : Nat) (hf : f < 2305843009213693952) (hm : m ≤ 30) (h0 : 0 < m) : rowL f s m m = [(f, f + m - 1)] := by
  obtain ⟨h1, h2, h3⟩ := rowL_ok f s m hf hm m (Nat.le_refl _)
  refine WF.unique _ _ h1.wf ⟨by show f ≤ f + m - 1; omega, fun _ h => (by cases h), trivial⟩ fun x => ?_
  rw [h3 x, memS_cons]
  have hn := memS_nil x
  simp only [hn, or_false]
  constructor
  · rintro ⟨j, hj, e⟩
    have := rowK_lt s m j h0 hj
    omega
  · intro h
    obtain ⟨j, hj, e⟩ := rowK_onto s m (x - f) (by omega)
    exact ⟨j, hj, by omega⟩
end Go.Proofs.Ytnahjmladhbmpaa
