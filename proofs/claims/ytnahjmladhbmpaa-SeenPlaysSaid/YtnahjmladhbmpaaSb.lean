/- Spans and numbers: what a Seen keeps, what the reference keeps. -/
import Derived.Test.YtnahjmladhbmpaaSa
namespace Go.Proofs.Ytnahjmladhbmpaa

theorem wf_iff : ∀ l : List (Nat × Nat), WF l ↔ (∀ p ∈ l, p.1 ≤ p.2) ∧ l.Pairwise (fun p q => q.2 + 1 < p.1)
  | [] => by simp [WF]
  | p :: l => by
    unfold WF
    rw [wf_iff l, List.pairwise_cons]
    simp only [List.mem_cons, forall_eq_or_imp]
    constructor
    · rintro ⟨a, b, c, d⟩; exact ⟨⟨a, c⟩, b, d⟩
    · rintro ⟨⟨a, c⟩, b, d⟩; exact ⟨a, b, c, d⟩
theorem wf_append (a b : List (Nat × Nat)) : WF (a ++ b) ↔ WF a ∧ WF b ∧ ∀ p ∈ a, ∀ q ∈ b, q.2 + 1 < p.1 := by
  rw [wf_iff, wf_iff, wf_iff, List.pairwise_append]
  simp only [List.mem_append, or_imp, forall_and]
  constructor
  · rintro ⟨⟨a, b⟩, c, d, e⟩; exact ⟨⟨a, c⟩, ⟨b, d⟩, e⟩
  · rintro ⟨⟨a, c⟩, ⟨b, d⟩, e⟩; exact ⟨⟨a, b⟩, c, d, e⟩
theorem WF.take {l : List (Nat × Nat)} (h : WF l) (k : Nat) : WF (l.take k) := by
  have := h
  rw [← List.take_append_drop k l, wf_append] at this
  exact this.1
/-- What is kept of spans, and the floor. -/
def putT (l : List (Nat × Nat)) (fl n : Nat) : List (Nat × Nat) × Nat := if 32 < (insS l n).length then ((insS l n).take 32, ((insS l n).getD 31 (0, 0)).1) else (insS l n, fl)
def okS (l : List (Nat × Nat)) (fl n : Nat) : Bool := decide (n ≤ 4611686018427387903) && !hasS l fl n
def putS (l : List (Nat × Nat)) (fl n : Nat) : List (Nat × Nat) × Nat := if okS l fl n then putT l fl n else (l, fl)
/-- What holds of a Seen's spans and its floor. -/
structure Sn (l : List (Nat × Nat)) (fl : Nat) : Prop where
  wf : WF l
  len : l.length ≤ 32
  low : ∀ p ∈ l, fl ≤ p.1
  top : ∀ p ∈ l, p.2 ≤ 4611686018427387903
  flt : fl ≤ 4611686018427387903
theorem Sn.nil : Sn [] 0 := ⟨trivial, Nat.zero_le _, fun _ h => (by cases h), fun _ h => (by cases h), Nat.zero_le _⟩
theorem Sn.ge {l : List (Nat × Nat)} {fl : Nat} (h : Sn l fl) {x : Nat} (hx : memS l x) : fl ≤ x := by
  obtain ⟨p, hp, h1, _⟩ := hx
  have := h.low p hp
  omega
theorem memS_le {l : List (Nat × Nat)} {t : Nat} (h : ∀ p ∈ l, p.2 ≤ t) {x : Nat} (hx : memS l x) : x ≤ t := by
  obtain ⟨p, hp, _, h2⟩ := hx
  have := h p hp
  omega
theorem WF.hi_mem {l : List (Nat × Nat)} (h : WF l) {p : Nat × Nat} (hp : p ∈ l) : memS l p.2 := ⟨p, hp, h.lo_hi p hp, Nat.le_refl _⟩
theorem WF.lo_mem {l : List (Nat × Nat)} (h : WF l) {p : Nat × Nat} (hp : p ∈ l) : memS l p.1 := ⟨p, hp, Nat.le_refl _, h.lo_hi p hp⟩
theorem okS_iff {l : List (Nat × Nat)} {fl n : Nat} (h : WF l) : okS l fl n = true ↔ n ≤ 4611686018427387903 ∧ fl ≤ n ∧ ¬ memS l n := by
  unfold okS
  have h1 := hasS_iff l fl n h
  by_cases h2 : hasS l fl n = true
  · have := h1.1 h2
    simp only [h2, Bool.not_true, Bool.and_false, Bool.false_eq_true, false_iff]
    rintro ⟨_, b, c⟩
    rcases this with d | d
    · omega
    · exact c d
  · have h3 : ¬ (n < fl ∨ memS l n) := fun h => h2 (h1.2 h)
    rw [Bool.not_eq_true] at h2
    simp only [h2, Bool.not_false, Bool.and_true, decide_eq_true_iff]
    constructor
    · intro h4
      exact ⟨h4, by have := fun h => h3 (Or.inl h); omega, fun h => h3 (Or.inr h)⟩
    · exact fun h => h.1
theorem take_mem {m : List (Nat × Nat)} (h : WF m) (k : Nat) (hk : k < m.length) (x : Nat) : memS (m.take (k + 1)) x ↔ memS m x ∧ (m.getD k (0, 0)).1 ≤ x := by
  have e : m = m.take k ++ (m[k] :: m.drop (k + 1)) := by rw [← List.drop_eq_getElem_cons hk, List.take_append_drop]
  have hg : m.getD k (0, 0) = m[k] := by simp [hk]
  have ht : m.take (k + 1) = m.take k ++ [m[k]] := (List.take_append_getElem hk).symm
  have hw : WF (m.take k ++ (m[k] :: m.drop (k + 1))) := by rw [← e]; exact h
  rw [wf_append] at hw
  obtain ⟨wa, wb, wc⟩ := hw
  rw [hg, ht]
  have e2 : memS m x ↔ memS (m.take k ++ (m[k] :: m.drop (k + 1))) x := by rw [← e]
  rw [e2]
  rw [memS_append, memS_append, memS_cons, memS_cons]
  have hn := memS_nil x
  simp only [hn, or_false]
  constructor
  · rintro (h1 | h1)
    · refine ⟨Or.inl h1, ?_⟩
      obtain ⟨p, hp, h2, h3⟩ := h1
      have h4 := wc p hp m[k] (List.mem_cons_self ..)
      have h5 := wb.1
      omega
    · exact ⟨Or.inr (Or.inl h1), h1.1⟩
  · rintro ⟨h1 | h1 | h1, h2⟩
    · exact Or.inl h1
    · exact Or.inr h1
    · have := wb.below h1
      omega
theorem putT_mem {l : List (Nat × Nat)} {fl n : Nat} (h : Sn l fl) (ho : okS l fl n = true) (x : Nat) : memS (putT l fl n).1 x ↔ (memS l x ∨ x = n) ∧ (putT l fl n).2 ≤ x := by
  obtain ⟨h1, h2, h3⟩ := (okS_iff h.wf).1 ho
  have hw := insS_wf l n h.wf h3
  have hm := insS_mem l n h.wf x
  unfold putT
  split
  · rename_i hl
    rw [take_mem hw 31 (by omega) x, hm]
  · rw [hm]
    constructor
    · intro h4
      refine ⟨h4, ?_⟩
      rcases h4 with h4 | h4
      · exact h.ge h4
      · show fl ≤ x; omega
    · exact fun h => h.1
theorem putT_fl {l : List (Nat × Nat)} {fl n : Nat} (h : Sn l fl) (ho : okS l fl n = true) : fl ≤ (putT l fl n).2 := by
  obtain ⟨h1, h2, h3⟩ := (okS_iff h.wf).1 ho
  have hw := insS_wf l n h.wf h3
  unfold putT
  split
  · rename_i hl
    have : memS (insS l n) ((insS l n).getD 31 (0, 0)).1 := by
      rw [show (insS l n).getD 31 (0, 0) = (insS l n)[31]'(by omega) from getD_lt' _ _ _ (by omega)]
      exact hw.lo_mem (List.getElem_mem _)
    rcases (insS_mem l n h.wf _).1 this with h4 | h4
    · exact h.ge h4
    · show fl ≤ ((insS l n).getD 31 (0, 0)).1
      omega
  · exact Nat.le_refl _
theorem putT_sn {l : List (Nat × Nat)} {fl n : Nat} (h : Sn l fl) (ho : okS l fl n = true) : Sn (putT l fl n).1 (putT l fl n).2 := by
  obtain ⟨h1, h2, h3⟩ := (okS_iff h.wf).1 ho
  have hw := insS_wf l n h.wf h3
  have hw2 : WF (putT l fl n).1 := by
    unfold putT
    split
    · exact hw.take 32
    · exact hw
  have top : ∀ x, memS (insS l n) x → x ≤ 4611686018427387903 := fun x hx => by
    rcases (insS_mem l n h.wf x).1 hx with h4 | h4
    · exact memS_le h.top h4
    · omega
  refine ⟨hw2, ?_, fun p hp => ((putT_mem h ho p.1).1 (hw2.lo_mem hp)).2, fun p hp => ?_, ?_⟩
  · unfold putT
    split
    · simp only [List.length_take]; omega
    · show (insS l n).length ≤ 32
      omega
  · rcases ((putT_mem h ho p.2).1 (hw2.hi_mem hp)).1 with h4 | h4
    · exact memS_le h.top h4
    · omega
  · unfold putT
    split
    · rename_i hl
      refine top _ ?_
      show memS (insS l n) ((insS l n).getD 31 (0, 0)).1
      rw [show (insS l n).getD 31 (0, 0) = (insS l n)[31]'(by omega) from getD_lt' _ _ _ (by omega)]
      exact hw.lo_mem (List.getElem_mem _)
    · exact h.flt
theorem putS_sn {l : List (Nat × Nat)} {fl n : Nat} (h : Sn l fl) : Sn (putS l fl n).1 (putS l fl n).2 := by
  unfold putS
  split
  · rename_i ho
    exact putT_sn h ho
  · exact h
/-- What came stays come; a number that came has come. -/
theorem putS_has {l : List (Nat × Nat)} {fl n x : Nat} (h : Sn l fl) (hx : hasS l fl x = true) : hasS (putS l fl n).1 (putS l fl n).2 x = true := by
  unfold putS
  split
  · rename_i ho
    rw [hasS_iff _ _ _ (putT_sn h ho).wf, putT_mem h ho]
    have hf := putT_fl h ho
    rcases (hasS_iff _ _ _ h.wf).1 hx with h1 | h1
    · left; omega
    · by_cases h2 : x < (putT l fl n).2
      · exact Or.inl h2
      · exact Or.inr ⟨Or.inl h1, by omega⟩
  · exact hx
theorem putS_new {l : List (Nat × Nat)} {fl n : Nat} (h : Sn l fl) (ho : okS l fl n = true) : hasS (putS l fl n).1 (putS l fl n).2 n = true := by
  unfold putS
  rw [if_pos ho, hasS_iff _ _ _ (putT_sn h ho).wf, putT_mem h ho]
  by_cases h2 : n < (putT l fl n).2
  · exact Or.inl h2
  · exact Or.inr ⟨Or.inr rfl, by omega⟩

/-! ### The reference's -/
/-- The reference's step: one number more, below all others. -/
def pushS (out : List (Nat × Nat)) (x : Nat) : List (Nat × Nat) := if 0 < out.length ∧ (out.getD (out.length - 1) (0, 0)).1 = x + 1 then out.set (out.length - 1) (x, (out.getD (out.length - 1) (0, 0)).2) else out ++ [(x, x)]
theorem pushS_snoc (a : List (Nat × Nat)) (p : Nat × Nat) (x : Nat) : pushS (a ++ [p]) x = if p.1 = x + 1 then a ++ [(x, p.2)] else a ++ [p] ++ [(x, x)] := by
  unfold pushS
  have e : (a ++ [p]).length - 1 = a.length := by simp
  rw [e]
  have e2 : (a ++ [p]).getD a.length (0, 0) = p := by simp
  rw [e2]
  have e3 : 0 < (a ++ [p]).length := by simp
  by_cases h : p.1 = x + 1
  · rw [if_pos ⟨e3, h⟩, if_pos h]
    simp
  · rw [if_neg (fun h1 => h h1.2), if_neg h]
theorem pushS_ok (out : List (Nat × Nat)) (D : List Nat) (x : Nat) (hw : WF out) (hm : ∀ y, memS out y ↔ y ∈ D) (hx : ∀ y ∈ D, x < y) : WF (pushS out x) ∧ ∀ y, memS (pushS out x) y ↔ y ∈ D ∨ y = x := by
  rcases List.eq_nil_or_concat out with rfl | ⟨a, p, rfl⟩
  · have hD : ∀ y, y ∉ D := fun y hy => memS_nil y ((hm y).2 hy)
    refine ⟨⟨Nat.le_refl _, fun _ h => (by cases h), trivial⟩, fun y => ?_⟩
    show memS [(x, x)] y ↔ _
    rw [memS_cons]
    have := memS_nil y
    simp only [this, or_false, hD y, false_or]
    omega
  · rw [List.concat_eq_append] at hw hm ⊢
    rw [pushS_snoc]
    have hp : x < p.1 := hx _ ((hm p.1).1 ⟨p, by simp, Nat.le_refl _, hw.lo_hi p (by simp)⟩)
    obtain ⟨wa, wp, wc⟩ := (wf_append _ _).1 hw
    have wpp := wp.1
    by_cases h : p.1 = x + 1
    · rw [if_pos h]
      refine ⟨(wf_append _ _).2 ⟨wa, ⟨by show x ≤ p.2; omega, fun _ h => (by cases h), trivial⟩, fun q hq r hr => ?_⟩, fun y => ?_⟩
      · have hr' : r = (x, p.2) := by simpa using hr
        rw [hr']
        exact wc q hq p (by simp)
      · rw [← hm y, memS_append, memS_append, memS_cons, memS_cons]
        have hn := memS_nil y
        simp only [hn, or_false]
        by_cases ha : memS a y <;> simp only [ha, true_or, false_or] <;> omega
    · rw [if_neg h]
      refine ⟨(wf_append _ _).2 ⟨hw, ⟨Nat.le_refl _, fun _ h => (by cases h), trivial⟩, fun q hq r hr => ?_⟩, fun y => ?_⟩
      · have hr' : r = (x, x) := by simpa using hr
        rw [hr']
        show x + 1 < q.1
        rcases List.mem_append.1 hq with hq | hq
        · have := wc q hq p (by simp); omega
        · have : q = p := by simpa using hq
          subst this
          omega
      · rw [memS_append, memS_cons, hm y]
        have hn := memS_nil y
        simp only [hn, or_false]
        by_cases hD : y ∈ D <;> simp only [hD, true_or, false_or] <;> omega
theorem fold_ok : ∀ (D E : List Nat) (out : List (Nat × Nat)), WF out → (∀ y, memS out y ↔ y ∈ E) → (∀ x ∈ D, ∀ y ∈ E, x < y) → D.Pairwise (fun x y => y < x) → WF (D.foldl pushS out) ∧ ∀ y, memS (D.foldl pushS out) y ↔ y ∈ E ∨ y ∈ D
  | [], E, out, hw, hm, _, _ => ⟨hw, fun y => by simp [hm]⟩
  | x :: D, E, out, hw, hm, hx, hp => by
    rw [List.pairwise_cons] at hp
    obtain ⟨h1, h2⟩ := pushS_ok out E x hw hm (fun y hy => hx x (List.mem_cons_self ..) y hy)
    obtain ⟨h3, h4⟩ := fold_ok D (x :: E) (pushS out x) h1 (fun y => by rw [h2 y, List.mem_cons, or_comm]) (fun z hz y hy => by
      rcases List.mem_cons.1 hy with rfl | hy
      · exact hp.1 z hz
      · exact hx z (List.mem_cons_of_mem _ hz) y hy) hp.2
    refine ⟨h3, fun y => ?_⟩
    rw [List.foldl_cons, h4 y, List.mem_cons, List.mem_cons]
    constructor
    · rintro ((h | h) | h)
      · exact Or.inr (Or.inl h)
      · exact Or.inl h
      · exact Or.inr (Or.inr h)
    · rintro (h | h | h)
      · exact Or.inl (Or.inr h)
      · exact Or.inl (Or.inl h)
      · exact Or.inr h
/-- The spans of numbers that rise. -/
def spansR (L : List Nat) : List (Nat × Nat) := L.reverse.foldl pushS []
theorem spansR_ok (L : List Nat) (h : L.Pairwise (· < ·)) : WF (spansR L) ∧ ∀ y, memS (spansR L) y ↔ y ∈ L := by
  obtain ⟨h1, h2⟩ := fold_ok L.reverse [] [] trivial (fun y => by simp [memS]) (fun _ _ _ h => (by cases h)) (by rw [List.pairwise_reverse]; exact h)
  exact ⟨h1, fun y => by rw [spansR, h2 y]; simp⟩
/-- The reference's numbers, and the program's spans. -/
structure Rl (l : List (Nat × Nat)) (L : List Nat) : Prop where
  up : L.Pairwise (· < ·)
  mem : ∀ x, x ∈ L ↔ memS l x
theorem Rl.nil : Rl [] [] := ⟨List.Pairwise.nil, fun x => by simp [memS]⟩
theorem Rl.spans {l : List (Nat × Nat)} {L : List Nat} (h : Rl l L) (hw : WF l) : spansR L = l := by
  obtain ⟨h1, h2⟩ := spansR_ok L h.up
  exact WF.unique _ _ h1 hw fun n => by rw [h2 n, h.mem n]
theorem Rl.has {l : List (Nat × Nat)} {L : List Nat} (h : Rl l L) (hw : WF l) (fl n : Nat) : hasS l fl n = (decide (n < fl) || decide (n ∈ L)) := by
  rw [Bool.eq_iff_iff, hasS_iff l fl n hw, Bool.or_eq_true, decide_eq_true_iff, decide_eq_true_iff, h.mem n]
/-- A number put among those that rise, at place i. -/
def insL (L : List Nat) (i n : Nat) : List Nat := L.take i ++ n :: L.drop i
theorem insL_ok {L : List Nat} (h : L.Pairwise (· < ·)) (i n : Nat) (hi : i ≤ L.length) (h1 : ∀ j, j < i → L.getD j 0 < n) (h2 : i < L.length → n ≤ L.getD i 0) (hn : n ∉ L) : (insL L i n).Pairwise (· < ·) ∧ ∀ x, x ∈ insL L i n ↔ x ∈ L ∨ x = n := by
  have hs : (L.take i ++ L.drop i).Pairwise (· < ·) := by rw [List.take_append_drop]; exact h
  rw [List.pairwise_append] at hs
  obtain ⟨s1, s2, s3⟩ := hs
  have a : ∀ x ∈ L.take i, x < n := fun x hx => by
    obtain ⟨j, hj, e⟩ := List.mem_iff_getElem.1 hx
    have hj' : j < i := by rw [List.length_take] at hj; omega
    have := h1 j hj'
    rw [getD_lt' _ _ _ (by omega)] at this
    rw [List.getElem_take] at e
    omega
  have b : ∀ x ∈ L.drop i, n < x := fun x hx => by
    have hil : i < L.length := by
      rcases Nat.lt_or_ge i L.length with h | h
      · exact h
      · rw [List.drop_eq_nil_of_le h] at hx; cases hx
    have hmem : x ∈ L := List.mem_of_mem_drop hx
    have h3 := h2 hil
    rw [getD_lt' _ _ _ hil] at h3
    rw [List.drop_eq_getElem_cons hil] at hx s2
    rw [List.pairwise_cons] at s2
    have hne : x ≠ n := fun e => hn (e ▸ hmem)
    rcases List.mem_cons.1 hx with rfl | hx
    · omega
    · have := s2.1 x hx; omega
  refine ⟨?_, fun x => ?_⟩
  · unfold insL
    rw [List.pairwise_append, List.pairwise_cons]
    refine ⟨s1, ⟨b, s2⟩, fun x hx y hy => ?_⟩
    rcases List.mem_cons.1 hy with rfl | hy
    · exact a x hx
    · exact s3 x hx y hy
  · unfold insL
    conv => rhs; rw [← List.take_append_drop i L]
    simp only [List.mem_append, List.mem_cons]
    constructor
    · rintro (h | h | h)
      · exact Or.inl (Or.inl h)
      · exact Or.inr h
      · exact Or.inl (Or.inr h)
    · rintro ((h | h) | h)
      · exact Or.inl h
      · exact Or.inr (Or.inr h)
      · exact Or.inr (Or.inl h)
theorem drop_ok {L : List Nat} (h : L.Pairwise (· < ·)) (k f : Nat) (hk : k ≤ L.length) (h1 : ∀ j, j < k → L.getD j 0 < f) (h2 : k < L.length → f ≤ L.getD k 0) : (L.drop k).Pairwise (· < ·) ∧ ∀ x, x ∈ L.drop k ↔ x ∈ L ∧ f ≤ x := by
  have hs : (L.take k ++ L.drop k).Pairwise (· < ·) := by rw [List.take_append_drop]; exact h
  rw [List.pairwise_append] at hs
  obtain ⟨s1, s2, s3⟩ := hs
  refine ⟨s2, fun x => ⟨fun hx => ⟨List.mem_of_mem_drop hx, ?_⟩, fun ⟨hx, hf⟩ => ?_⟩⟩
  · have hkl : k < L.length := by
      rcases Nat.lt_or_ge k L.length with h | h
      · exact h
      · rw [List.drop_eq_nil_of_le h] at hx; cases hx
    have h3 := h2 hkl
    rw [getD_lt' _ _ _ hkl] at h3
    rw [List.drop_eq_getElem_cons hkl] at hx s2
    rw [List.pairwise_cons] at s2
    rcases List.mem_cons.1 hx with rfl | hx
    · omega
    · have := s2.1 x hx; omega
  · rw [← List.take_append_drop k L] at hx
    rcases List.mem_append.1 hx with hx | hx
    · obtain ⟨j, hj, e⟩ := List.mem_iff_getElem.1 hx
      have hj' : j < k := by rw [List.length_take] at hj; omega
      have := h1 j hj'
      rw [getD_lt' _ _ _ (by omega)] at this
      rw [List.getElem_take] at e
      omega
    · exact hx
/-- What the reference's Put leaves, is what the program's does. -/
theorem Rl.put {l : List (Nat × Nat)} {L : List Nat} {fl n : Nat} (h : Rl l L) (hs : Sn l fl) (ho : okS l fl n = true) (i : Nat) (hi : i ≤ L.length) (h1 : ∀ j, j < i → L.getD j 0 < n) (h2 : i < L.length → n ≤ L.getD i 0) :
    spansR (insL L i n) = insS l n ∧ (¬ 32 < (insS l n).length → Rl (putT l fl n).1 (insL L i n) ∧ (putT l fl n).2 = fl) ∧
      (32 < (insS l n).length → (putT l fl n).2 = ((insS l n).getD 31 (0, 0)).1 ∧ ∀ k, k ≤ (insL L i n).length → (∀ j, j < k → (insL L i n).getD j 0 < (putT l fl n).2) → (k < (insL L i n).length → (putT l fl n).2 ≤ (insL L i n).getD k 0) → Rl (putT l fl n).1 ((insL L i n).drop k)) := by
  obtain ⟨o1, o2, o3⟩ := (okS_iff hs.wf).1 ho
  obtain ⟨u1, u2⟩ := insL_ok h.up i n hi h1 h2 (fun hn => o3 ((h.mem n).1 hn))
  have hm : ∀ x, x ∈ insL L i n ↔ memS (insS l n) x := fun x => by rw [u2 x, insS_mem l n hs.wf x, h.mem x]
  obtain ⟨s1, s2⟩ := spansR_ok _ u1
  refine ⟨WF.unique _ _ s1 (insS_wf l n hs.wf o3) fun x => by rw [s2 x, hm x], fun hl => ?_, fun hl => ?_⟩
  · unfold putT
    rw [if_neg hl]
    exact ⟨⟨u1, hm⟩, rfl⟩
  · refine ⟨by unfold putT; rw [if_pos hl], fun k hk k1 k2 => ?_⟩
    obtain ⟨d1, d2⟩ := drop_ok u1 k _ hk k1 k2
    refine ⟨d1, fun x => ?_⟩
    rw [d2 x, putT_mem hs ho x, u2 x, h.mem x]
theorem Rl.next {l : List (Nat × Nat)} {L : List Nat} (h : Rl l L) (hw : WF l) : (L = [] ↔ l = []) ∧ (0 < l.length → 0 < L.length ∧ L.getD (L.length - 1) 0 = (l.getD 0 (0, 0)).2) := by
  cases l with
  | nil =>
    refine ⟨⟨fun _ => rfl, fun _ => ?_⟩, fun h => absurd h (Nat.not_lt_zero _)⟩
    cases L with
    | nil => rfl
    | cons x L => exact absurd ((h.mem x).1 (List.mem_cons_self ..)) (memS_nil x)
  | cons p l =>
    have hp : p.2 ∈ L := (h.mem p.2).2 (hw.hi_mem (List.mem_cons_self ..))
    have hne : L ≠ [] := fun e => by rw [e] at hp; cases hp
    have hpos : 0 < L.length := List.length_pos_iff.2 hne
    refine ⟨⟨fun e => absurd e hne, fun e => by cases e⟩, fun _ => ⟨hpos, ?_⟩⟩
    rw [getD_lt' _ _ _ (by omega)]
    show L[L.length - 1] = p.2
    have hl : L[L.length - 1]'(by omega) ∈ L := List.getElem_mem _
    have a : L[L.length - 1]'(by omega) ≤ p.2 := by
      rcases (memS_cons p l _).1 ((h.mem _).1 hl) with h1 | h1
      · exact h1.2
      · have := hw.below h1
        have := hw.1
        omega
    obtain ⟨j, hj, e⟩ := List.mem_iff_getElem.1 hp
    rcases Nat.lt_or_ge j (L.length - 1) with h1 | h1
    · have := List.pairwise_iff_getElem.1 h.up j (L.length - 1) hj (by omega) h1
      omega
    · have : j = L.length - 1 := by omega
      subst this
      exact e
end Go.Proofs.Ytnahjmladhbmpaa
