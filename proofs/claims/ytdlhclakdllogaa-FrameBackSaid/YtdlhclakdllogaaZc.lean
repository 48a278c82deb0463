/- Parsing as plain arithmetic: what is encoded is parsed. -/
import Derived.Test.YtdlhclakdllogaaUb
import Derived.Test.YtdlhclakdllogaaUy
namespace Go.Proofs.Ytdlhclakdllogaa
open Go

def failS (c d : Nat) : Nat := if c = 0 then d else c
def bytesS (n : Nat) (l : List Nat) (c : Nat) : List Nat × List Nat × Nat := if c ≠ 0 then ([], l, c) else if l.length < n then ([], l, 3) else (l.take n, l.drop n, 0)
def dataS (l : List Nat) (c : Nat) : List Nat × List Nat × Nat := bytesS (numS l c).1 (numS l c).2.1 (if 2048 < (numS l c).1 then failS (numS l c).2.2 8 else (numS l c).2.2)
/-- a less b, which must not be below 0. -/
def lessS (a b c : Nat) : Nat × Nat := if a < b then (0, failS c 5) else (a - b, c)
/-- Further spans, behind one that begins at lo. -/
def moreS : Nat → Nat → List Nat → Nat → List (Nat × Nat) → List (Nat × Nat) × List Nat × Nat
  | 0, _, l, c, acc => (acc, l, c)
  | m + 1, lo, l, c, acc => if c ≠ 0 then (acc, l, c) else
    let g := numS l c
    let h := lessS lo (g.1 + 2) g.2.2
    let e := numS g.2.1 h.2
    let o := lessS h.1 e.1 e.2.2
    moreS m o.1 e.2.1 o.2 (acc ++ [(o.1, h.1)])
/-- Spans, from the first one's length on. -/
def spanS (m hi len : Nat) (l : List Nat) (c : Nat) : List (Nat × Nat) × List Nat × Nat := moreS m (lessS hi len c).1 l (lessS hi len c).2 [((lessS hi len c).1, hi)]
def ackS (l : List Nat) (c : Nat) : Fr × List Nat × Nat :=
  let h := numS l c
  let n := numS h.2.1 h.2.2
  let m := numS n.2.1 n.2.2
  let e := numS m.2.1 m.2.2
  let r := spanS m.1 h.1 e.1 e.2.1 (if 31 < m.1 then failS e.2.2 7 else e.2.2)
  (⟨2, 0, 0, n.1, 0, false, [], r.1⟩, r.2)
/-- A frame's fields behind its kind. -/
def fieldsK (k : Nat) (l : List Nat) (c : Nat) : Fr × List Nat × Nat :=
  if k = 0 ∨ k = 1 ∨ k = 30 then (⟨k, 0, 0, 0, 0, false, [], []⟩, l, c)
  else if k = 2 then ackS l c
  else if k = 4 then
    let a := numS l c
    let b := numS a.2.1 a.2.2
    let d := numS b.2.1 b.2.2
    (⟨4, a.1, 0, d.1, b.1, false, [], []⟩, d.2)
  else if k = 5 then
    let a := numS l c
    let b := numS a.2.1 a.2.2
    (⟨5, a.1, 0, 0, b.1, false, [], []⟩, b.2)
  else if k = 6 then
    let a := numS l c
    let d := dataS a.2.1 a.2.2
    (⟨6, 0, a.1, 0, 0, false, d.1, []⟩, d.2)
  else if k = 10 ∨ k = 11 then
    let a := numS l c
    let d := dataS a.2.1 a.2.2
    (⟨8, a.1, 0, 0, 0, decide (k = 11), d.1, []⟩, d.2)
  else if k = 14 ∨ k = 15 then
    let a := numS l c
    let b := numS a.2.1 a.2.2
    let d := dataS b.2.1 (if b.1 = 0 then failS b.2.2 5 else b.2.2)
    (⟨8, a.1, b.1, 0, 0, decide (k = 15), d.1, []⟩, d.2)
  else if k = 16 ∨ k = 18 then
    let a := numS l c
    (⟨k, 0, 0, a.1, 0, false, [], []⟩, a.2)
  else if k = 17 then
    let a := numS l c
    let b := numS a.2.1 a.2.2
    (⟨17, a.1, 0, b.1, 0, false, [], []⟩, b.2)
  else if k = 28 then
    let a := numS l c
    let d := dataS a.2.1 a.2.2
    (⟨28, 0, 0, 0, a.1, false, d.1, []⟩, d.2)
  else (⟨k, 0, 0, 0, 0, false, [], []⟩, l, failS c 6)
def frameS (l : List Nat) : Fr × List Nat × Nat :=
  let k := numS l 0
  let r := fieldsK k.1 k.2.1 k.2.2
  (r.1, r.2.1, if 4611686018427387903 < r.1.off + r.1.data.length then failS r.2.2 2 else r.2.2)
def parseL : Nat → List Nat → List Fr → Nat × List Fr
  | 0, _, acc => (0, acc)
  | _ + 1, [], acc => (0, acc)
  | fuel + 1, x :: l, acc =>
    let r := frameS (x :: l)
    if r.2.2 ≠ 0 then (r.2.2, []) else if r.1.kind = 0 then parseL fuel r.2.1 acc else if acc.length = 64 then (7, []) else parseL fuel r.2.1 (acc ++ [r.1])
def parseF (b : List Nat) : Nat × List Fr := parseL b.length b []
theorem dataS_put (d R : List Nat) (hd : d.length ≤ 2048) : dataS (vput d.length ++ (d ++ R)) 0 = (d, R, 0) := by
  unfold dataS
  rw [numS_put _ (by omega)]
  dsimp only
  rw [if_neg (by omega)]
  unfold bytesS
  rw [if_neg (by decide), if_neg (by rw [List.length_append]; omega), List.take_left, List.drop_left]
/-- One span behind another. -/
def chainR : Nat × Nat → List (Nat × Nat) → Prop
  | p, [] => p.1 ≤ p.2
  | p, q :: r => p.1 ≤ p.2 ∧ q.2 + 2 ≤ p.1 ∧ chainR q r
theorem chain_of : ∀ (r : List (Nat × Nat)) (p : Nat × Nat), (∀ i, i < (p :: r).length → rightAt (p :: r) i) → chainR p r
  | [], p, h => (h 0 (by simp)).1
  | q :: r, p, h => by
    have h0 := h 0 (by simp)
    have h1 := h 1 (by simp)
    refine ⟨h0.1, h1.2.2 (by decide), chain_of r q fun i hi => ?_⟩
    have h2 := h (i + 1) (by simp only [List.length_cons] at hi ⊢; omega)
    refine ⟨h2.1, h2.2.1, fun hp => ?_⟩
    have h3 := h2.2.2 (by omega)
    obtain ⟨j, rfl⟩ : ∃ j, i = j + 1 := ⟨i - 1, by omega⟩
    exact h3
theorem less_ok {a b : Nat} (c : Nat) (h : b ≤ a) : lessS a b c = (a - b, c) := if_neg (by omega)
theorem moreS_put : ∀ (r : List (Nat × Nat)) (p : Nat × Nat) (R : List Nat) (acc : List (Nat × Nat)), chainR p r → (∀ x ∈ gaps p r, x < 4611686018427387904) → moreS r.length p.1 (vputs (gaps p r) ++ R) 0 acc = (acc ++ r, R, 0)
  | [], p, R, acc, _, _ => by
    rw [List.append_nil]
    rfl
  | q :: r, p, R, acc, h, hx => by
    obtain ⟨h1, h2, h3⟩ := h
    have h4 : q.1 ≤ q.2 := by
      cases r with
      | nil => exact h3
      | cons s r => exact h3.1
    have x0 := hx (p.1 - q.2 - 2) (by simp [gaps])
    have x1 := hx (q.2 - q.1) (by simp [gaps])
    have e : vputs (gaps p (q :: r)) ++ R = vput (p.1 - q.2 - 2) ++ (vput (q.2 - q.1) ++ (vputs (gaps q r) ++ R)) := by
      show vputs ((p.1 - q.2 - 2) :: (q.2 - q.1) :: gaps q r) ++ R = _
      rw [vputs_cons, vputs_cons, List.append_assoc, List.append_assoc]
    rw [e]
    show moreS (r.length + 1) p.1 _ 0 acc = _
    unfold moreS
    rw [if_neg (by decide), numS_put _ x0]
    dsimp only
    rw [less_ok 0 (by omega), show p.1 - (p.1 - q.2 - 2 + 2) = q.2 by omega]
    dsimp only
    rw [numS_put _ x1]
    dsimp only
    rw [less_ok 0 (by omega), show q.2 - (q.2 - q.1) = q.1 by omega]
    dsimp only
    rw [moreS_put r q R _ h3 (fun x h => hx x (by simp only [gaps, List.mem_cons]; exact Or.inr (Or.inr h))), List.append_assoc]
    rfl
theorem spanS_put (r : List (Nat × Nat)) (p : Nat × Nat) (R : List Nat) (h : chainR p r) (hx : ∀ x ∈ gaps p r, x < 4611686018427387904) : spanS r.length p.2 (p.2 - p.1) (vputs (gaps p r) ++ R) 0 = (p :: r, R, 0) := by
  have h4 : p.1 ≤ p.2 := by
    cases r with
    | nil => exact h
    | cons s r => exact h.1
  unfold spanS
  rw [less_ok 0 (by omega), show p.2 - (p.2 - p.1) = p.1 by omega]
  exact moreS_put r p R _ h hx
theorem frame_enc (f : Fr) (h : (encF f).1 = 0) (R : List Nat) : frameS ((encF f).2 ++ R) = (trimF f, R, 0) := by
  obtain ⟨_, kk, kr⟩ := enc_small h
  obtain ⟨b, hb, e⟩ := encF_ok h
  obtain ⟨eb, hn⟩ := putO_bytes hb
  have hx : f.data.length ≤ 2048 ∧ (0 < f.data.length → f.kind = 6 ∨ f.kind = 8 ∨ f.kind = 28) ∧ (f.kind = 6 ∨ f.kind = 8 → f.off + f.data.length ≤ 4611686018427387903) := by
    unfold encF at h
    repeat' split at h
    all_goals first | (exfalso; revert h; decide) | skip
    rename_i h1 h2 h3 h4 h5
    exact ⟨by omega, fun h0 => by
      by_cases a6 : f.kind = 6
      · exact Or.inl a6
      · by_cases a8 : f.kind = 8
        · exact Or.inr (Or.inl a8)
        · by_cases a28 : f.kind = 28
          · exact Or.inr (Or.inr a28)
          · exact absurd ⟨h0, a6, a8, a28⟩ h2, fun h0 => by
      by_cases a : 4611686018427387903 < f.off + f.data.length
      · exact absurd ⟨h0, a⟩ h5
      · omega⟩
  rw [e, eb, List.append_assoc]
  clear e eb hb h b
  obtain ⟨k, i, o, n, c, fn, d, a⟩ := f
  obtain ⟨d2, dk, od⟩ := hx
  dsimp only at *
  rcases known_mem kk with rfl | rfl | rfl | rfl | rfl | rfl | rfl | rfl | rfl | rfl | rfl | rfl
  · have d0 : d = [] := by
      cases d with
      | nil => rfl
      | cons x t => exact absurd (dk (by simp)) (by decide)
    subst d0
    show frameS (vputs [0] ++ (([] : List Nat) ++ R)) = _
    have e : vputs [0] ++ (([] : List Nat) ++ R) = vput 0 ++ R := by
      simp [vputs]
    rw [e]
    unfold frameS
    rw [numS_put 0 (by decide)]
    simp [fieldsK, trimF]
  · have d0 : d = [] := by
      cases d with
      | nil => rfl
      | cons x t => exact absurd (dk (by simp)) (by decide)
    subst d0
    show frameS (vputs [1] ++ (([] : List Nat) ++ R)) = _
    have e : vputs [1] ++ (([] : List Nat) ++ R) = vput 1 ++ R := by
      simp [vputs]
    rw [e]
    unfold frameS
    rw [numS_put 1 (by decide)]
    simp [fieldsK, trimF]
  · have d0 : d = [] := by
      cases d with
      | nil => rfl
      | cons x t => exact absurd (dk (by simp)) (by decide)
    subst d0
    obtain ⟨a1, a32, RA⟩ := rightL_at (kr rfl)
    cases a with
    | nil => simp at a1
    | cons p r =>
      have ch := chain_of r p RA
      have hl : ∀ x ∈ 2 :: p.2 :: n :: r.length :: (p.2 - p.1) :: gaps p r, x < 4611686018427387904 := hn
      have h0 := hl p.2 (by simp)
      have h1 := hl n (by simp)
      have h2 := hl r.length (by simp)
      have h3 := hl (p.2 - p.1) (by simp)
      have sp := spanS_put r p R ch (fun x hx => hl x (by simp [hx]))
      have m31 : ¬ 31 < r.length := by simp only [List.length_cons] at a32; omega
      show frameS (vputs (2 :: p.2 :: n :: r.length :: (p.2 - p.1) :: gaps p r) ++ ([] ++ R)) = _
      have e : vputs (2 :: p.2 :: n :: r.length :: (p.2 - p.1) :: gaps p r) ++ ([] ++ R) = vput 2 ++ (vput p.2 ++ (vput n ++ (vput r.length ++ (vput (p.2 - p.1) ++ (vputs (gaps p r) ++ R))))) := by
        simp only [vputs_cons, List.append_assoc, List.nil_append]
      rw [e]
      unfold frameS
      rw [numS_put 2 (by decide)]
      simp [fieldsK, trimF, ackS, numS_put _ h0, numS_put _ h1, numS_put _ h2, numS_put _ h3, m31, sp]
  · have d0 : d = [] := by
      cases d with
      | nil => rfl
      | cons x t => exact absurd (dk (by simp)) (by decide)
    subst d0
    have h0 := hn i (show i ∈ [4, i, c, n] by simp)
    have h1 := hn c (show c ∈ [4, i, c, n] by simp)
    have h2 := hn n (show n ∈ [4, i, c, n] by simp)
    show frameS (vputs [4, i, c, n] ++ (([] : List Nat) ++ R)) = _
    have e : vputs [4, i, c, n] ++ (([] : List Nat) ++ R) = vput 4 ++ (vput i ++ (vput c ++ (vput n ++ (R)))) := by
      simp [vputs]
    rw [e]
    unfold frameS
    rw [numS_put 4 (by decide)]
    simp [fieldsK, trimF, numS_put _ h0, numS_put _ h1, numS_put _ h2]
  · have d0 : d = [] := by
      cases d with
      | nil => rfl
      | cons x t => exact absurd (dk (by simp)) (by decide)
    subst d0
    have h0 := hn i (show i ∈ [5, i, c] by simp)
    have h1 := hn c (show c ∈ [5, i, c] by simp)
    show frameS (vputs [5, i, c] ++ (([] : List Nat) ++ R)) = _
    have e : vputs [5, i, c] ++ (([] : List Nat) ++ R) = vput 5 ++ (vput i ++ (vput c ++ (R))) := by
      simp [vputs]
    rw [e]
    unfold frameS
    rw [numS_put 5 (by decide)]
    simp [fieldsK, trimF, numS_put _ h0, numS_put _ h1]
  · have od := od (Or.inl rfl)
    have nr : ¬ 4611686018427387903 < o + d.length := by omega
    have h0 : o < 4611686018427387904 := hn o (show o ∈ [6, o, d.length] by simp)
    show frameS (vputs [6, o, d.length] ++ (d ++ R)) = _
    have e : vputs [6, o, d.length] ++ (d ++ R) = vput 6 ++ (vput o ++ (vput d.length ++ (d ++ R))) := by
      simp [vputs]
    rw [e]
    unfold frameS
    rw [numS_put 6 (by decide)]
    simp [fieldsK, trimF, numS_put _ h0, dataS_put d R d2, nr]
  · have od := od (Or.inr rfl)
    have nr : ¬ 4611686018427387903 < o + d.length := by omega
    by_cases hp : 0 < o
    · rw [nums8 hp] at hn ⊢
      have o0 : ¬ o = 0 := by omega
      cases fn
      · have h0 : i < 4611686018427387904 := hn i (show i ∈ [14, i, o, d.length] by simp)
        have h1 : o < 4611686018427387904 := hn o (show o ∈ [14, i, o, d.length] by simp)
        show frameS (vputs [14, i, o, d.length] ++ (d ++ R)) = _
        have e : vputs [14, i, o, d.length] ++ (d ++ R) = vput 14 ++ (vput i ++ (vput o ++ (vput d.length ++ (d ++ R)))) := by
          simp [vputs]
        rw [e]
        unfold frameS
        rw [numS_put 14 (by decide)]
        simp [fieldsK, trimF, numS_put _ h0, numS_put _ h1, dataS_put d R d2, nr, o0]
      · have h0 : i < 4611686018427387904 := hn i (show i ∈ [15, i, o, d.length] by simp)
        have h1 : o < 4611686018427387904 := hn o (show o ∈ [15, i, o, d.length] by simp)
        show frameS (vputs [15, i, o, d.length] ++ (d ++ R)) = _
        have e : vputs [15, i, o, d.length] ++ (d ++ R) = vput 15 ++ (vput i ++ (vput o ++ (vput d.length ++ (d ++ R)))) := by
          simp [vputs]
        rw [e]
        unfold frameS
        rw [numS_put 15 (by decide)]
        simp [fieldsK, trimF, numS_put _ h0, numS_put _ h1, dataS_put d R d2, nr, o0]
    · obtain rfl : o = 0 := by omega
      cases fn
      · have nr : ¬ 4611686018427387903 < d.length := by omega
        have h0 : i < 4611686018427387904 := hn i (show i ∈ [10, i, d.length] by simp)
        show frameS (vputs [10, i, d.length] ++ (d ++ R)) = _
        have e : vputs [10, i, d.length] ++ (d ++ R) = vput 10 ++ (vput i ++ (vput d.length ++ (d ++ R))) := by
          simp [vputs]
        rw [e]
        unfold frameS
        rw [numS_put 10 (by decide)]
        simp [fieldsK, trimF, numS_put _ h0, dataS_put d R d2, nr]
      · have nr : ¬ 4611686018427387903 < d.length := by omega
        have h0 : i < 4611686018427387904 := hn i (show i ∈ [11, i, d.length] by simp)
        show frameS (vputs [11, i, d.length] ++ (d ++ R)) = _
        have e : vputs [11, i, d.length] ++ (d ++ R) = vput 11 ++ (vput i ++ (vput d.length ++ (d ++ R))) := by
          simp [vputs]
        rw [e]
        unfold frameS
        rw [numS_put 11 (by decide)]
        simp [fieldsK, trimF, numS_put _ h0, dataS_put d R d2, nr]
  · have d0 : d = [] := by
      cases d with
      | nil => rfl
      | cons x t => exact absurd (dk (by simp)) (by decide)
    subst d0
    have h0 := hn n (show n ∈ [16, n] by simp)
    show frameS (vputs [16, n] ++ (([] : List Nat) ++ R)) = _
    have e : vputs [16, n] ++ (([] : List Nat) ++ R) = vput 16 ++ (vput n ++ (R)) := by
      simp [vputs]
    rw [e]
    unfold frameS
    rw [numS_put 16 (by decide)]
    simp [fieldsK, trimF, numS_put _ h0]
  · have d0 : d = [] := by
      cases d with
      | nil => rfl
      | cons x t => exact absurd (dk (by simp)) (by decide)
    subst d0
    have h0 := hn i (show i ∈ [17, i, n] by simp)
    have h1 := hn n (show n ∈ [17, i, n] by simp)
    show frameS (vputs [17, i, n] ++ (([] : List Nat) ++ R)) = _
    have e : vputs [17, i, n] ++ (([] : List Nat) ++ R) = vput 17 ++ (vput i ++ (vput n ++ (R))) := by
      simp [vputs]
    rw [e]
    unfold frameS
    rw [numS_put 17 (by decide)]
    simp [fieldsK, trimF, numS_put _ h0, numS_put _ h1]
  · have d0 : d = [] := by
      cases d with
      | nil => rfl
      | cons x t => exact absurd (dk (by simp)) (by decide)
    subst d0
    have h0 := hn n (show n ∈ [18, n] by simp)
    show frameS (vputs [18, n] ++ (([] : List Nat) ++ R)) = _
    have e : vputs [18, n] ++ (([] : List Nat) ++ R) = vput 18 ++ (vput n ++ (R)) := by
      simp [vputs]
    rw [e]
    unfold frameS
    rw [numS_put 18 (by decide)]
    simp [fieldsK, trimF, numS_put _ h0]
  · have nr : ¬ 4611686018427387903 < d.length := by omega
    have h0 : c < 4611686018427387904 := hn c (show c ∈ [28, c, d.length] by simp)
    show frameS (vputs [28, c, d.length] ++ (d ++ R)) = _
    have e : vputs [28, c, d.length] ++ (d ++ R) = vput 28 ++ (vput c ++ (vput d.length ++ (d ++ R))) := by
      simp [vputs]
    rw [e]
    unfold frameS
    rw [numS_put 28 (by decide)]
    simp [fieldsK, trimF, numS_put _ h0, dataS_put d R d2, nr]
  · have d0 : d = [] := by
      cases d with
      | nil => rfl
      | cons x t => exact absurd (dk (by simp)) (by decide)
    subst d0
    show frameS (vputs [30] ++ (([] : List Nat) ++ R)) = _
    have e : vputs [30] ++ (([] : List Nat) ++ R) = vput 30 ++ R := by
      simp [vputs]
    rw [e]
    unfold frameS
    rw [numS_put 30 (by decide)]
    simp [fieldsK, trimF]
end Go.Proofs.Ytdlhclakdllogaa
/- Parsing as plain arithmetic: cut it is short; many; what Parse is asked (printed by gen11/zc.py). -/
namespace Go.Proofs.Ytdlhclakdllogaa
open Go

theorem numS_cut (n : Nat) (hn : n < 4611686018427387904) (R : List Nat) (k : Nat) : numS ((vput n ++ R).take k) 0 = if k < (vput n).length then (0, (vput n ++ R).take k, 3) else (n, R.take (k - (vput n).length), 0) := by
  by_cases h : k < (vput n).length
  · rw [if_pos h]
    have e : (vput n ++ R).take k = (vput n).take k := List.take_append_of_le_length (by omega)
    rw [e]
    exact numS_none _ (takeV_short n hn k h)
  · rw [if_neg h, List.take_append, List.take_of_length_le (by omega), numS_put n hn]
theorem numS3 (l : List Nat) : numS l 3 = (0, l, 3) := numS_fault l 3 (by decide)
theorem dataS3 (l : List Nat) : dataS l 3 = ([], l, 3) := by
  unfold dataS
  rw [numS3]
  rfl
theorem lessS3 (a b : Nat) : (lessS a b 3).2 = 3 := by
  unfold lessS
  split <;> rfl
theorem moreS3 (m lo : Nat) (l : List Nat) (acc : List (Nat × Nat)) : moreS m lo l 3 acc = (acc, l, 3) := by
  cases m
  · rfl
  · unfold moreS
    rw [if_pos (by decide)]
theorem spanS3 (m hi len : Nat) (l : List Nat) : (spanS m hi len l 3).2 = (l, 3) := by
  unfold spanS
  rw [lessS3, moreS3]
theorem dataS_cut (d : List Nat) (hd : d.length ≤ 2048) (k : Nat) (hk : k < (vput d.length).length + d.length) : ∃ y, dataS ((vput d.length ++ d).take k) 0 = ([], y, 3) := by
  unfold dataS
  rw [numS_cut _ (by omega)]
  by_cases h : k < (vput d.length).length
  · rw [if_pos h]
    exact ⟨_, rfl⟩
  · rw [if_neg h]
    dsimp only
    rw [if_neg (by omega)]
    unfold bytesS
    rw [if_neg (by decide), if_pos (by rw [List.length_take]; omega)]
    exact ⟨_, rfl⟩
theorem moreS_cut : ∀ (r : List (Nat × Nat)) (p : Nat × Nat) (k : Nat) (acc : List (Nat × Nat)), chainR p r → (∀ x ∈ gaps p r, x < 4611686018427387904) → k < (vputs (gaps p r)).length → (moreS r.length p.1 ((vputs (gaps p r)).take k) 0 acc).2.2 = 3
  | [], _, _, _, _, _, h => absurd h (Nat.not_lt_zero _)
  | q :: r, p, k, acc, h, hx, hk => by
    obtain ⟨h1, h2, h3⟩ := h
    have h4 : q.1 ≤ q.2 := by
      cases r with
      | nil => exact h3
      | cons s r => exact h3.1
    have ih := moreS_cut r q
    have x0 := hx (p.1 - q.2 - 2) (by simp [gaps])
    have x1 := hx (q.2 - q.1) (by simp [gaps])
    have e : vputs (gaps p (q :: r)) = vput (p.1 - q.2 - 2) ++ (vput (q.2 - q.1) ++ vputs (gaps q r)) := by
      show vputs ((p.1 - q.2 - 2) :: (q.2 - q.1) :: gaps q r) = _
      rw [vputs_cons, vputs_cons]
    rw [e] at hk ⊢
    rw [List.length_append, List.length_append] at hk
    show (moreS (r.length + 1) p.1 _ 0 acc).2.2 = _
    unfold moreS
    rw [if_neg (by decide), numS_cut _ x0]
    by_cases c0 : k < (vput (p.1 - q.2 - 2)).length
    · rw [if_pos c0]
      dsimp only
      rw [lessS3, numS3]
      dsimp only
      rw [lessS3, moreS3]
    · rw [if_neg c0]
      dsimp only
      rw [less_ok 0 (by omega), show p.1 - (p.1 - q.2 - 2 + 2) = q.2 by omega]
      dsimp only
      rw [numS_cut _ x1]
      by_cases c1 : k - (vput (p.1 - q.2 - 2)).length < (vput (q.2 - q.1)).length
      · rw [if_pos c1]
        dsimp only
        rw [lessS3, moreS3]
      · rw [if_neg c1]
        dsimp only
        rw [less_ok 0 (by omega), show q.2 - (q.2 - q.1) = q.1 by omega]
        exact ih _ _ h3 (fun x h => hx x (by simp only [gaps, List.mem_cons]; exact Or.inr (Or.inr h))) (by omega)
theorem spanS_cut (r : List (Nat × Nat)) (p : Nat × Nat) (k : Nat) (h : chainR p r) (hx : ∀ x ∈ gaps p r, x < 4611686018427387904) (hk : k < (vputs (gaps p r)).length) : (spanS r.length p.2 (p.2 - p.1) ((vputs (gaps p r)).take k) 0).2.2 = 3 := by
  have h4 : p.1 ≤ p.2 := by
    cases r with
    | nil => exact h
    | cons s r => exact h.1
  unfold spanS
  rw [less_ok 0 (by omega), show p.2 - (p.2 - p.1) = p.1 by omega]
  exact moreS_cut r p k _ h hx hk
theorem one_len (n : Nat) (h : n < 64) : (vput n).length = 1 := by
  rw [vput_length]
  unfold vtop
  rw [if_pos h]
theorem trim_kind (f : Fr) : (trimF f).kind = f.kind := by
  unfold trimF
  repeat' split
  all_goals rfl
theorem frame_cut (f : Fr) (h : (encF f).1 = 0) (k : Nat) (k0 : 0 < k) (hk : k < (encF f).2.length) : (frameS ((encF f).2.take k)).2.2 = 3 := by
  obtain ⟨_, kk, kr⟩ := enc_small h
  obtain ⟨b, hb, e⟩ := encF_ok h
  obtain ⟨eb, hn⟩ := putO_bytes hb
  have hx : f.data.length ≤ 2048 ∧ (0 < f.data.length → f.kind = 6 ∨ f.kind = 8 ∨ f.kind = 28) := by
    unfold encF at h
    repeat' split at h
    all_goals first | (exfalso; revert h; decide) | skip
    rename_i h1 h2 h3 h4 h5
    exact ⟨by omega, fun h0 => by
      by_cases a6 : f.kind = 6
      · exact Or.inl a6
      · by_cases a8 : f.kind = 8
        · exact Or.inr (Or.inl a8)
        · by_cases a28 : f.kind = 28
          · exact Or.inr (Or.inr a28)
          · exact absurd ⟨h0, a6, a8, a28⟩ h2⟩
  rw [e, eb] at hk ⊢
  clear e eb hb h b
  obtain ⟨kd, i, o, n, c, fn, d, a⟩ := f
  obtain ⟨d2, dk⟩ := hx
  dsimp only at *
  rcases known_mem kk with rfl | rfl | rfl | rfl | rfl | rfl | rfl | rfl | rfl | rfl | rfl | rfl
  · have d0 : d = [] := by
      cases d with
      | nil => rfl
      | cons x t => exact absurd (dk (by simp)) (by decide)
    subst d0
    change k < (vputs [0] ++ ([] : List Nat)).length at hk
    show (frameS ((vputs [0] ++ ([] : List Nat)).take k)).2.2 = 3
    have e : vputs [0] ++ ([] : List Nat) = vput 0 ++ [] := by
      simp [vputs]
    rw [e] at hk ⊢
    simp only [List.length_append, List.length_nil, one_len 0 (by decide)] at hk
    unfold frameS
    rw [numS_cut 0 (by decide), if_neg (by rw [one_len 0 (by decide)]; omega), one_len 0 (by decide)]
    exact absurd hk (by omega)
  · have d0 : d = [] := by
      cases d with
      | nil => rfl
      | cons x t => exact absurd (dk (by simp)) (by decide)
    subst d0
    change k < (vputs [1] ++ ([] : List Nat)).length at hk
    show (frameS ((vputs [1] ++ ([] : List Nat)).take k)).2.2 = 3
    have e : vputs [1] ++ ([] : List Nat) = vput 1 ++ [] := by
      simp [vputs]
    rw [e] at hk ⊢
    simp only [List.length_append, List.length_nil, one_len 1 (by decide)] at hk
    unfold frameS
    rw [numS_cut 1 (by decide), if_neg (by rw [one_len 1 (by decide)]; omega), one_len 1 (by decide)]
    exact absurd hk (by omega)
  · have d0 : d = [] := by
      cases d with
      | nil => rfl
      | cons x t => exact absurd (dk (by simp)) (by decide)
    subst d0
    obtain ⟨a1, a32, RA⟩ := rightL_at (kr rfl)
    cases a with
    | nil => simp at a1
    | cons p r =>
      have ch := chain_of r p RA
      have hl : ∀ x ∈ 2 :: p.2 :: n :: r.length :: (p.2 - p.1) :: gaps p r, x < 4611686018427387904 := hn
      have h0 := hl p.2 (by simp)
      have h1 := hl n (by simp)
      have h2 := hl r.length (by simp)
      have h3 := hl (p.2 - p.1) (by simp)
      have m31 : ¬ 31 < r.length := by simp only [List.length_cons] at a32; omega
      change k < (vputs (2 :: p.2 :: n :: r.length :: (p.2 - p.1) :: gaps p r) ++ []).length at hk
      show (frameS ((vputs (2 :: p.2 :: n :: r.length :: (p.2 - p.1) :: gaps p r) ++ []).take k)).2.2 = 3
      have e : vputs (2 :: p.2 :: n :: r.length :: (p.2 - p.1) :: gaps p r) ++ [] = vput 2 ++ (vput p.2 ++ (vput n ++ (vput r.length ++ (vput (p.2 - p.1) ++ vputs (gaps p r))))) := by
        simp only [vputs_cons, List.append_nil]
      rw [e] at hk ⊢
      simp only [List.length_append, one_len 2 (by decide)] at hk
      unfold frameS
      rw [numS_cut 2 (by decide), if_neg (by rw [one_len 2 (by decide)]; omega), one_len 2 (by decide)]
      by_cases c0 : k - 1 < (vput p.2).length
      · simp [fieldsK, ackS, numS_cut _ h0, c0, numS3, spanS3]
      · by_cases c1 : k - 1 - (vput p.2).length < (vput n).length
        · simp [fieldsK, ackS, numS_cut _ h0, numS_cut _ h1, c0, c1, numS3, spanS3]
        · by_cases c2 : k - 1 - (vput p.2).length - (vput n).length < (vput r.length).length
          · simp [fieldsK, ackS, numS_cut _ h0, numS_cut _ h1, numS_cut _ h2, c0, c1, c2, numS3, spanS3]
          · by_cases c3 : k - 1 - (vput p.2).length - (vput n).length - (vput r.length).length < (vput (p.2 - p.1)).length
            · simp [fieldsK, ackS, numS_cut _ h0, numS_cut _ h1, numS_cut _ h2, numS_cut _ h3, c0, c1, c2, c3, spanS3, m31]
            · have sp := spanS_cut r p (k - 1 - (vput p.2).length - (vput n).length - (vput r.length).length - (vput (p.2 - p.1)).length) ch (fun x hx => hl x (by simp [hx])) (by omega)
              simp [fieldsK, ackS, numS_cut _ h0, numS_cut _ h1, numS_cut _ h2, numS_cut _ h3, c0, c1, c2, c3, m31, sp]
  · have d0 : d = [] := by
      cases d with
      | nil => rfl
      | cons x t => exact absurd (dk (by simp)) (by decide)
    subst d0
    have h0 : i < 4611686018427387904 := hn i (show i ∈ [4, i, c, n] by simp)
    have h1 : c < 4611686018427387904 := hn c (show c ∈ [4, i, c, n] by simp)
    have h2 : n < 4611686018427387904 := hn n (show n ∈ [4, i, c, n] by simp)
    change k < (vputs [4, i, c, n] ++ ([] : List Nat)).length at hk
    show (frameS ((vputs [4, i, c, n] ++ ([] : List Nat)).take k)).2.2 = 3
    have e : vputs [4, i, c, n] ++ ([] : List Nat) = vput 4 ++ (vput i ++ (vput c ++ (vput n ++ []))) := by
      simp [vputs]
    rw [e] at hk ⊢
    simp only [List.length_append, List.length_nil, one_len 4 (by decide)] at hk
    unfold frameS
    rw [numS_cut 4 (by decide), if_neg (by rw [one_len 4 (by decide)]; omega), one_len 4 (by decide)]
    by_cases c0 : k - 1 < (vput i).length
    · simp [fieldsK, numS_cut _ h0, c0, numS3]
    · by_cases c1 : k - 1 - (vput i).length < (vput c).length
      · simp [fieldsK, numS_cut _ h0, numS_cut _ h1, c0, c1, numS3]
      · by_cases c2 : k - 1 - (vput i).length - (vput c).length < (vput n).length
        · simp [fieldsK, numS_cut _ h0, numS_cut _ h1, c0, c1, numS_none _ (takeV_short _ h2 _ c2)]
        · exact absurd hk (by omega)
  · have d0 : d = [] := by
      cases d with
      | nil => rfl
      | cons x t => exact absurd (dk (by simp)) (by decide)
    subst d0
    have h0 : i < 4611686018427387904 := hn i (show i ∈ [5, i, c] by simp)
    have h1 : c < 4611686018427387904 := hn c (show c ∈ [5, i, c] by simp)
    change k < (vputs [5, i, c] ++ ([] : List Nat)).length at hk
    show (frameS ((vputs [5, i, c] ++ ([] : List Nat)).take k)).2.2 = 3
    have e : vputs [5, i, c] ++ ([] : List Nat) = vput 5 ++ (vput i ++ (vput c ++ [])) := by
      simp [vputs]
    rw [e] at hk ⊢
    simp only [List.length_append, List.length_nil, one_len 5 (by decide)] at hk
    unfold frameS
    rw [numS_cut 5 (by decide), if_neg (by rw [one_len 5 (by decide)]; omega), one_len 5 (by decide)]
    by_cases c0 : k - 1 < (vput i).length
    · simp [fieldsK, numS_cut _ h0, c0, numS3]
    · by_cases c1 : k - 1 - (vput i).length < (vput c).length
      · simp [fieldsK, numS_cut _ h0, c0, numS_none _ (takeV_short _ h1 _ c1)]
      · exact absurd hk (by omega)
  · have h0 : o < 4611686018427387904 := hn o (show o ∈ [6, o, d.length] by simp)
    change k < (vputs [6, o, d.length] ++ d).length at hk
    show (frameS ((vputs [6, o, d.length] ++ d).take k)).2.2 = 3
    have e : vputs [6, o, d.length] ++ d = vput 6 ++ (vput o ++ (vput d.length ++ (d))) := by
      simp [vputs]
    rw [e] at hk ⊢
    simp only [List.length_append, one_len 6 (by decide)] at hk
    unfold frameS
    rw [numS_cut 6 (by decide), if_neg (by rw [one_len 6 (by decide)]; omega), one_len 6 (by decide)]
    by_cases c0 : k - 1 < (vput o).length
    · simp [fieldsK, numS_cut _ h0, c0, dataS3]
    · obtain ⟨y, hy⟩ := dataS_cut d d2 (k - 1 - (vput o).length) (by omega)
      simp [fieldsK, numS_cut _ h0, c0, hy, failS]
  · by_cases hp : 0 < o
    · rw [nums8 hp] at hn hk ⊢
      have o0 : ¬ o = 0 := by omega
      cases fn
      · have h0 : i < 4611686018427387904 := hn i (show i ∈ [14, i, o, d.length] by simp)
        have h1 : o < 4611686018427387904 := hn o (show o ∈ [14, i, o, d.length] by simp)
        change k < (vputs [14, i, o, d.length] ++ d).length at hk
        show (frameS ((vputs [14, i, o, d.length] ++ d).take k)).2.2 = 3
        have e : vputs [14, i, o, d.length] ++ d = vput 14 ++ (vput i ++ (vput o ++ (vput d.length ++ (d)))) := by
          simp [vputs]
        rw [e] at hk ⊢
        simp only [List.length_append, one_len 14 (by decide)] at hk
        unfold frameS
        rw [numS_cut 14 (by decide), if_neg (by rw [one_len 14 (by decide)]; omega), one_len 14 (by decide)]
        by_cases c0 : k - 1 < (vput i).length
        · simp [fieldsK, numS_cut _ h0, c0, numS3, dataS3, failS]
        · by_cases c1 : k - 1 - (vput i).length < (vput o).length
          · simp [fieldsK, numS_cut _ h0, numS_cut _ h1, c0, c1, dataS3, failS]
          · obtain ⟨y, hy⟩ := dataS_cut d d2 (k - 1 - (vput i).length - (vput o).length) (by omega)
            simp [fieldsK, numS_cut _ h0, numS_cut _ h1, c0, c1, hy, failS, o0]
      · have h0 : i < 4611686018427387904 := hn i (show i ∈ [15, i, o, d.length] by simp)
        have h1 : o < 4611686018427387904 := hn o (show o ∈ [15, i, o, d.length] by simp)
        change k < (vputs [15, i, o, d.length] ++ d).length at hk
        show (frameS ((vputs [15, i, o, d.length] ++ d).take k)).2.2 = 3
        have e : vputs [15, i, o, d.length] ++ d = vput 15 ++ (vput i ++ (vput o ++ (vput d.length ++ (d)))) := by
          simp [vputs]
        rw [e] at hk ⊢
        simp only [List.length_append, one_len 15 (by decide)] at hk
        unfold frameS
        rw [numS_cut 15 (by decide), if_neg (by rw [one_len 15 (by decide)]; omega), one_len 15 (by decide)]
        by_cases c0 : k - 1 < (vput i).length
        · simp [fieldsK, numS_cut _ h0, c0, numS3, dataS3, failS]
        · by_cases c1 : k - 1 - (vput i).length < (vput o).length
          · simp [fieldsK, numS_cut _ h0, numS_cut _ h1, c0, c1, dataS3, failS]
          · obtain ⟨y, hy⟩ := dataS_cut d d2 (k - 1 - (vput i).length - (vput o).length) (by omega)
            simp [fieldsK, numS_cut _ h0, numS_cut _ h1, c0, c1, hy, failS, o0]
    · obtain rfl : o = 0 := by omega
      cases fn
      · have h0 : i < 4611686018427387904 := hn i (show i ∈ [10, i, d.length] by simp)
        change k < (vputs [10, i, d.length] ++ d).length at hk
        show (frameS ((vputs [10, i, d.length] ++ d).take k)).2.2 = 3
        have e : vputs [10, i, d.length] ++ d = vput 10 ++ (vput i ++ (vput d.length ++ (d))) := by
          simp [vputs]
        rw [e] at hk ⊢
        simp only [List.length_append, one_len 10 (by decide)] at hk
        unfold frameS
        rw [numS_cut 10 (by decide), if_neg (by rw [one_len 10 (by decide)]; omega), one_len 10 (by decide)]
        by_cases c0 : k - 1 < (vput i).length
        · simp [fieldsK, numS_cut _ h0, c0, dataS3]
        · obtain ⟨y, hy⟩ := dataS_cut d d2 (k - 1 - (vput i).length) (by omega)
          simp [fieldsK, numS_cut _ h0, c0, hy]
      · have h0 : i < 4611686018427387904 := hn i (show i ∈ [11, i, d.length] by simp)
        change k < (vputs [11, i, d.length] ++ d).length at hk
        show (frameS ((vputs [11, i, d.length] ++ d).take k)).2.2 = 3
        have e : vputs [11, i, d.length] ++ d = vput 11 ++ (vput i ++ (vput d.length ++ (d))) := by
          simp [vputs]
        rw [e] at hk ⊢
        simp only [List.length_append, one_len 11 (by decide)] at hk
        unfold frameS
        rw [numS_cut 11 (by decide), if_neg (by rw [one_len 11 (by decide)]; omega), one_len 11 (by decide)]
        by_cases c0 : k - 1 < (vput i).length
        · simp [fieldsK, numS_cut _ h0, c0, dataS3]
        · obtain ⟨y, hy⟩ := dataS_cut d d2 (k - 1 - (vput i).length) (by omega)
          simp [fieldsK, numS_cut _ h0, c0, hy]
  · have d0 : d = [] := by
      cases d with
      | nil => rfl
      | cons x t => exact absurd (dk (by simp)) (by decide)
    subst d0
    have h0 : n < 4611686018427387904 := hn n (show n ∈ [16, n] by simp)
    change k < (vputs [16, n] ++ ([] : List Nat)).length at hk
    show (frameS ((vputs [16, n] ++ ([] : List Nat)).take k)).2.2 = 3
    have e : vputs [16, n] ++ ([] : List Nat) = vput 16 ++ (vput n ++ []) := by
      simp [vputs]
    rw [e] at hk ⊢
    simp only [List.length_append, List.length_nil, one_len 16 (by decide)] at hk
    unfold frameS
    rw [numS_cut 16 (by decide), if_neg (by rw [one_len 16 (by decide)]; omega), one_len 16 (by decide)]
    by_cases c0 : k - 1 < (vput n).length
    · simp [fieldsK, numS_none _ (takeV_short _ h0 _ c0)]
    · exact absurd hk (by omega)
  · have d0 : d = [] := by
      cases d with
      | nil => rfl
      | cons x t => exact absurd (dk (by simp)) (by decide)
    subst d0
    have h0 : i < 4611686018427387904 := hn i (show i ∈ [17, i, n] by simp)
    have h1 : n < 4611686018427387904 := hn n (show n ∈ [17, i, n] by simp)
    change k < (vputs [17, i, n] ++ ([] : List Nat)).length at hk
    show (frameS ((vputs [17, i, n] ++ ([] : List Nat)).take k)).2.2 = 3
    have e : vputs [17, i, n] ++ ([] : List Nat) = vput 17 ++ (vput i ++ (vput n ++ [])) := by
      simp [vputs]
    rw [e] at hk ⊢
    simp only [List.length_append, List.length_nil, one_len 17 (by decide)] at hk
    unfold frameS
    rw [numS_cut 17 (by decide), if_neg (by rw [one_len 17 (by decide)]; omega), one_len 17 (by decide)]
    by_cases c0 : k - 1 < (vput i).length
    · simp [fieldsK, numS_cut _ h0, c0, numS3]
    · by_cases c1 : k - 1 - (vput i).length < (vput n).length
      · simp [fieldsK, numS_cut _ h0, c0, numS_none _ (takeV_short _ h1 _ c1)]
      · exact absurd hk (by omega)
  · have d0 : d = [] := by
      cases d with
      | nil => rfl
      | cons x t => exact absurd (dk (by simp)) (by decide)
    subst d0
    have h0 : n < 4611686018427387904 := hn n (show n ∈ [18, n] by simp)
    change k < (vputs [18, n] ++ ([] : List Nat)).length at hk
    show (frameS ((vputs [18, n] ++ ([] : List Nat)).take k)).2.2 = 3
    have e : vputs [18, n] ++ ([] : List Nat) = vput 18 ++ (vput n ++ []) := by
      simp [vputs]
    rw [e] at hk ⊢
    simp only [List.length_append, List.length_nil, one_len 18 (by decide)] at hk
    unfold frameS
    rw [numS_cut 18 (by decide), if_neg (by rw [one_len 18 (by decide)]; omega), one_len 18 (by decide)]
    by_cases c0 : k - 1 < (vput n).length
    · simp [fieldsK, numS_none _ (takeV_short _ h0 _ c0)]
    · exact absurd hk (by omega)
  · have h0 : c < 4611686018427387904 := hn c (show c ∈ [28, c, d.length] by simp)
    change k < (vputs [28, c, d.length] ++ d).length at hk
    show (frameS ((vputs [28, c, d.length] ++ d).take k)).2.2 = 3
    have e : vputs [28, c, d.length] ++ d = vput 28 ++ (vput c ++ (vput d.length ++ (d))) := by
      simp [vputs]
    rw [e] at hk ⊢
    simp only [List.length_append, one_len 28 (by decide)] at hk
    unfold frameS
    rw [numS_cut 28 (by decide), if_neg (by rw [one_len 28 (by decide)]; omega), one_len 28 (by decide)]
    by_cases c0 : k - 1 < (vput c).length
    · simp [fieldsK, numS_cut _ h0, c0, dataS3]
    · obtain ⟨y, hy⟩ := dataS_cut d d2 (k - 1 - (vput c).length) (by omega)
      simp [fieldsK, numS_cut _ h0, c0, hy]
  · have d0 : d = [] := by
      cases d with
      | nil => rfl
      | cons x t => exact absurd (dk (by simp)) (by decide)
    subst d0
    change k < (vputs [30] ++ ([] : List Nat)).length at hk
    show (frameS ((vputs [30] ++ ([] : List Nat)).take k)).2.2 = 3
    have e : vputs [30] ++ ([] : List Nat) = vput 30 ++ [] := by
      simp [vputs]
    rw [e] at hk ⊢
    simp only [List.length_append, List.length_nil, one_len 30 (by decide)] at hk
    unfold frameS
    rw [numS_cut 30 (by decide), if_neg (by rw [one_len 30 (by decide)]; omega), one_len 30 (by decide)]
    exact absurd hk (by omega)
theorem parse_nil (fuel : Nat) (acc : List Fr) : parseL fuel [] acc = (0, acc) := by
  cases fuel <;> rfl
theorem parse_step (f : Fr) (h : (encF f).1 = 0) (R : List Nat) (fuel : Nat) (hf : ((encF f).2 ++ R).length ≤ fuel) (acc : List Fr) : ∃ fuel', R.length ≤ fuel' ∧ parseL fuel ((encF f).2 ++ R) acc = if f.kind = 0 then parseL fuel' R acc else if acc.length = 64 then (7, []) else parseL fuel' R (acc ++ [trimF f]) := by
  have ef := frame_enc f h R
  obtain ⟨b, hb, e⟩ := encF_ok h
  obtain ⟨kn, l, ek⟩ := nums_cons f
  have hp : 0 < (encF f).2.length := by
    rw [e, (putO_bytes hb).1, ek, vputs_cons, List.length_append, List.length_append]
    have := vput_pos kn
    omega
  rw [List.length_append] at hf
  obtain ⟨fuel', rfl⟩ : ∃ g, fuel = g + 1 := ⟨fuel - 1, by omega⟩
  refine ⟨fuel', by omega, ?_⟩
  cases hl : (encF f).2 ++ R with
  | nil =>
    have := congrArg List.length hl
    rw [List.length_append, List.length_nil] at this
    omega
  | cons x t =>
    rw [hl] at ef
    show (if (frameS (x :: t)).2.2 ≠ 0 then _ else _) = _
    rw [ef]
    dsimp only
    rw [if_neg (by decide), trim_kind]
theorem parse_back : ∀ (fs : List Fr) (fuel : Nat) (acc : List Fr), (∀ f ∈ fs, (encF f).1 = 0) → (npL fs).length + acc.length ≤ 64 → (bytesK fs).length ≤ fuel → parseL fuel (bytesK fs) acc = (0, acc ++ wantK fs)
  | [], fuel, acc, _, _, _ => by
    show parseL fuel [] acc = (0, acc ++ [])
    rw [parse_nil, List.append_nil]
  | f :: fs, fuel, acc, h, hn, hf => by
    have e : bytesK (f :: fs) = (encF f).2 ++ bytesK fs := rfl
    rw [e] at hf ⊢
    obtain ⟨g, hg, hs⟩ := parse_step f (h f (by simp)) (bytesK fs) fuel hf acc
    rw [hs]
    have hr : ∀ f ∈ fs, (encF f).1 = 0 := fun x hx => h x (by simp [hx])
    by_cases hk : f.kind = 0
    · rw [if_pos hk]
      have en : npL (f :: fs) = npL fs := List.filter_cons_of_neg (by simp [hk])
      rw [en] at hn
      rw [parse_back fs g acc hr hn hg]
      unfold wantK
      rw [en]
    · have en : npL (f :: fs) = f :: npL fs := List.filter_cons_of_pos (by simpa using hk)
      rw [en, List.length_cons] at hn
      rw [if_neg hk, if_neg (by omega), parse_back fs g _ hr (by rw [List.length_append]; show _ + (_ + 1) ≤ 64; omega) hg, List.append_assoc]
      unfold wantK
      rw [en]
      rfl
theorem parse_many : ∀ (fs : List Fr) (fuel : Nat) (acc : List Fr), (∀ f ∈ fs, (encF f).1 = 0) → 64 < (npL fs).length + acc.length → acc.length ≤ 64 → (bytesK fs).length ≤ fuel → parseL fuel (bytesK fs) acc = (7, [])
  | [], _, acc, _, hn, ha, _ => by
    have : (npL []).length = 0 := rfl
    omega
  | f :: fs, fuel, acc, h, hn, ha, hf => by
    have e : bytesK (f :: fs) = (encF f).2 ++ bytesK fs := rfl
    rw [e] at hf ⊢
    obtain ⟨g, hg, hs⟩ := parse_step f (h f (by simp)) (bytesK fs) fuel hf acc
    rw [hs]
    have hr : ∀ f ∈ fs, (encF f).1 = 0 := fun x hx => h x (by simp [hx])
    by_cases hk : f.kind = 0
    · rw [if_pos hk]
      have en : npL (f :: fs) = npL fs := List.filter_cons_of_neg (by simp [hk])
      rw [en] at hn
      exact parse_many fs g acc hr hn ha hg
    · have en : npL (f :: fs) = f :: npL fs := List.filter_cons_of_pos (by simpa using hk)
      rw [en, List.length_cons] at hn
      rw [if_neg hk]
      by_cases h64 : acc.length = 64
      · rw [if_pos h64]
      · rw [if_neg h64]
        exact parse_many fs g _ hr (by rw [List.length_append]; show 64 < _ + (_ + 1); omega) (by rw [List.length_append]; show _ + 1 ≤ 64; omega) hg
theorem parM_parseF : ParM parseF where
  back := fun fs h hn => by
    have := parse_back fs _ [] (fun f hf => (h f hf).2) (by rw [List.length_nil]; exact hn) (Nat.le_refl (bytesK fs).length)
    rw [List.nil_append] at this
    exact this
  many := fun pad n h => by
    have := parse_many (manyF pad n) _ [] (fun f hf => (many_ok pad n f hf).2) (by rw [List.length_nil]; have := many_count pad n; unfold npL; omega) (by decide) (Nat.le_refl (bytesK (manyF pad n)).length)
    unfold bytesK at this
    rw [many_bytes] at this
    exact this
  cut := fun f _ h k k0 hk => by
    have fc := frame_cut f h k k0 hk
    have lk : ((encF f).2.take k).length = k := by rw [List.length_take]; omega
    unfold parseF
    rw [lk]
    obtain ⟨j, rfl⟩ : ∃ j, k = j + 1 := ⟨k - 1, by omega⟩
    cases hl : (encF f).2.take (j + 1) with
    | nil => rw [hl] at lk; simp at lk
    | cons x t =>
      rw [hl] at fc
      show (if (frameS (x :: t)).2.2 ≠ 0 then ((frameS (x :: t)).2.2, []) else _) = _
      rw [fc, if_pos (by decide)]
end Go.Proofs.Ytdlhclakdllogaa
