/- Packets' numbers and heads as plain arithmetic. -/
import Derived.Test.YtfhiflakglhneaaYa
namespace Go.Proofs.Ytfhiflakglhneaa
open Go

/-- How many bytes of a number are sent. -/
def shortN (pn acked : Nat) : Nat := if pn - acked < 128 then 1 else if pn - acked < 32768 then 2 else if pn - acked < 8388608 then 3 else 4
theorem shortN_is (pn acked : Nat) : shortN pn acked = 1 ∨ shortN pn acked = 2 ∨ shortN pn acked = 3 ∨ shortN pn acked = 4 := by
  unfold shortN
  split
  · exact Or.inl rfl
  · split
    · exact Or.inr (Or.inl rfl)
    · split
      · exact Or.inr (Or.inr (Or.inl rfl))
      · exact Or.inr (Or.inr (Or.inr rfl))
/-- The number nearest to next whose lowest bytes (w: 256 to their number) are those of short. -/
def fullW (w short next : Nat) : Nat :=
  if next - next % w + short % w < 4611686018427387904 - w ∧ w / 2 ≤ next ∧ next - next % w + short % w ≤ next - w / 2 then next - next % w + short % w + w
  else if w ≤ next - next % w + short % w ∧ next < next - next % w + short % w - w / 2 then next - next % w + short % w - w
  else next - next % w + short % w
def fullN (short n next : Nat) : Nat := fullW (256 ^ n) short next
theorem fullW_facts (w short next : Nat) (hw : w = 256 ∨ w = 65536 ∨ w = 16777216 ∨ w = 4294967296) (hn : next < 4611686018427387904) :
    fullW w short next % w = short % w ∧ fullW w short next ≤ next + w ∧ next ≤ fullW w short next + w ∧ fullW w short next < 4611686018427387904 := by
  unfold fullW
  rcases hw with rfl | rfl | rfl | rfl
  all_goals
    split
    · omega
    · split
      · omega
      · omega
theorem fullW_near (w pn acked next : Nat) (hw : w = 256 ∨ w = 65536 ∨ w = 16777216 ∨ w = 4294967296) (hd : 2 * (pn - acked) < w) (h1 : acked ≤ next) (h2 : next ≤ pn) (hp : pn < 4611686018427387904) : fullW w (pn % w) next = pn := by
  unfold fullW
  rcases hw with rfl | rfl | rfl | rfl
  all_goals
    split
    · omega
    · split
      · omega
      · omega
/-- A fault, if there was none. -/
def failT (c d : Nat) : Nat := if c = 0 then d else c
/-- So many bytes from the front: they, what is left, the fault. -/
def tkS (n : Nat) (l : List Nat) (c : Nat) : List Nat × List Nat × Nat := if c ≠ 0 then ([], l, c) else if l.length < n then ([], l, 3) else (l.take n, l.drop n, 0)
theorem tkS_fault (n : Nat) (l : List Nat) {c : Nat} (hc : c ≠ 0) : tkS n l c = ([], l, c) := if_pos hc
theorem tkS_app {n : Nat} (xs r : List Nat) (h : xs.length = n) : tkS n (xs ++ r) 0 = (xs, r, 0) := by
  unfold tkS
  subst h
  rw [if_neg (by decide), if_neg (by rw [List.length_append]; omega), List.take_left, List.drop_left]
theorem tkS_cut {n : Nat} (xs r : List Nat) (k : Nat) (h : xs.length = n) : tkS n ((xs ++ r).take k) 0 = if k < n then ([], (xs ++ r).take k, 3) else (xs, r.take (k - n), 0) := by
  subst h
  by_cases hk : k < xs.length
  · rw [if_pos hk]
    unfold tkS
    rw [if_neg (by decide), if_pos (by rw [List.length_take]; omega)]
  · rw [if_neg hk, List.take_append, List.take_of_length_le (by omega)]
    exact tkS_app xs _ rfl
structure Hd where
  sp : Nat
  to : List Nat
  fr : List Nat
  at_ : Nat
  ends : Nat
  code : Nat
def noHd (c : Nat) : Hd := ⟨0, [], [], 0, 0, c⟩
/-- ErrShort, if fewer bytes are left than it says. -/
def lackN (q : Nat × List Nat × Nat) : Nat := if q.2.2 = 0 ∧ q.2.1.length < q.1 then 3 else q.2.2
/-- A head of the first two spaces, step by step; tot: how many bytes there are in all. -/
def long6 (sp tot : Nat) (to fr l : List Nat) (c : Nat) : Hd :=
  if lackN (numS l c) ≠ 0 then noHd (lackN (numS l c))
  else ⟨sp, to, fr, tot - (numS l c).2.1.length, tot - (numS l c).2.1.length + (numS l c).1, 0⟩
def long5 (sp tot : Nat) (to fr l : List Nat) (c : Nat) : Hd := if sp = 0 then long6 sp tot to fr (tkS 1 l c).2.1 (if (tkS 1 l c).1.getD 0 0 ≠ 0 then failT (tkS 1 l c).2.2 5 else (tkS 1 l c).2.2) else long6 sp tot to fr l c
def long4 (sp tot : Nat) (to l : List Nat) (c : Nat) : Hd := long5 sp tot to (tkS 8 l c).1 (tkS 8 l c).2.1 (tkS 8 l c).2.2
def long3 (sp tot : Nat) (to l : List Nat) (c : Nat) : Hd := long4 sp tot to (tkS 1 l c).2.1 (if (tkS 1 l c).1.getD 0 0 ≠ 8 then failT (tkS 1 l c).2.2 5 else (tkS 1 l c).2.2)
def long2 (sp tot : Nat) (l : List Nat) (c : Nat) : Hd := long3 sp tot (tkS 8 l c).1 (tkS 8 l c).2.1 (tkS 8 l c).2.2
def long1 (sp tot : Nat) (l : List Nat) (c : Nat) : Hd := long2 sp tot (tkS 1 l c).2.1 (if (tkS 1 l c).1.getD 0 0 ≠ 8 then failT (tkS 1 l c).2.2 5 else (tkS 1 l c).2.2)
def longF (b0 tot : Nat) (l : List Nat) : Hd := long1 (b0 / 32 % 2) tot (tkS 4 l 0).2.1 (if (tkS 4 l 0).2.2 = 0 ∧ (tkS 4 l 0).1 ≠ [0, 0, 0, 1] then 6 else (tkS 4 l 0).2.2)
theorem failT_ne {c : Nat} (hc : c ≠ 0) (d : Nat) : failT c d = c := if_neg hc
theorem fail_if (b : Prop) [Decidable b] {c : Nat} (hc : c ≠ 0) (d : Nat) : (if b then failT c d else c) = c := by
  split
  · exact failT_ne hc d
  · rfl
/-- A fault stays. -/
theorem long6_f (sp tot : Nat) (to fr l : List Nat) {c : Nat} (hc : c ≠ 0) : long6 sp tot to fr l c = noHd c := by
  unfold long6
  rw [numS_fault l c hc]
  have e : lackN (0, l, c) = c := if_neg (fun e => hc e.1)
  rw [e, if_pos hc]
theorem long5_f (sp tot : Nat) (to fr l : List Nat) {c : Nat} (hc : c ≠ 0) : long5 sp tot to fr l c = noHd c := by
  unfold long5
  rw [tkS_fault 1 l hc]
  dsimp only
  rw [fail_if _ hc, long6_f _ _ _ _ _ hc, ite_self]
theorem long4_f (sp tot : Nat) (to l : List Nat) {c : Nat} (hc : c ≠ 0) : long4 sp tot to l c = noHd c := by
  unfold long4
  rw [tkS_fault 8 l hc]
  exact long5_f _ _ _ _ _ hc
theorem long3_f (sp tot : Nat) (to l : List Nat) {c : Nat} (hc : c ≠ 0) : long3 sp tot to l c = noHd c := by
  unfold long3
  rw [tkS_fault 1 l hc]
  dsimp only
  rw [fail_if _ hc]
  exact long4_f _ _ _ _ hc
theorem long2_f (sp tot : Nat) (l : List Nat) {c : Nat} (hc : c ≠ 0) : long2 sp tot l c = noHd c := by
  unfold long2
  rw [tkS_fault 8 l hc]
  exact long3_f _ _ _ _ hc
theorem long1_f (sp tot : Nat) (l : List Nat) {c : Nat} (hc : c ≠ 0) : long1 sp tot l c = noHd c := by
  unfold long1
  rw [tkS_fault 1 l hc]
  dsimp only
  rw [fail_if _ hc]
  exact long2_f _ _ _ hc
def takeF : List Nat → Hd
  | [] => noHd 3
  | b0 :: l =>
    if b0 < 128 then if b0 < 64 then noHd 5 else if l.length < 8 then noHd 3 else ⟨2, l.take 8, [], 9, l.length + 1, 0⟩
    else if b0 / 64 % 2 = 0 ∨ b0 / 16 % 2 = 1 then noHd 5 else longF b0 (l.length + 1) l
def zeroB (sp : Nat) : List Nat := if sp = 0 then [0] else []
/-- What stands behind the first byte of a head of the first two spaces, up to the number. -/
def longB (sp : Nat) (to fr : List Nat) (m : Nat) : List Nat := [0, 0, 0, 1] ++ ([8] ++ (to ++ ([8] ++ (fr ++ (zeroB sp ++ [64 + m / 256, m % 256])))))
/-- A head's bytes: by_ bytes of the number, size bytes behind it. -/
def headB (sp : Nat) (to fr : List Nat) (pn n size : Nat) : List Nat :=
  if sp = 2 then (63 + n) :: (to ++ beL pn n) else (191 + 32 * sp + n) :: (longB sp to fr (n + size) ++ beL pn n)
theorem num_two (m : Nat) (hm : m ≤ 1300) (r : List Nat) : numS ((64 + m / 256) :: (m % 256) :: r) 0 = (m, r, 0) := by
  have h1 : (64 + m / 256) / 64 = 1 := by omega
  have h2 : (64 + m / 256) % 64 = m / 256 := by omega
  have e : takeV ((64 + m / 256) :: (m % 256) :: r) = some (m, r) := by
    show (if (m % 256 :: r).length + 1 < 2 ^ ((64 + m / 256) / 64) then none else some (beN ((64 + m / 256) % 64) ((m % 256 :: r).take (2 ^ ((64 + m / 256) / 64) - 1)), (m % 256 :: r).drop (2 ^ ((64 + m / 256) / 64) - 1))) = _
    rw [h1, h2, if_neg (by simp)]
    show some (m / 256 * 256 + m % 256, r) = some (m, r)
    rw [show m / 256 * 256 + m % 256 = m by omega]
  unfold numS
  rw [if_neg (by decide), e]
theorem num_one_less (m : Nat) (hm : m ≤ 1300) : numS [64 + m / 256] 0 = (0, [64 + m / 256], 3) := by
  have h1 : (64 + m / 256) / 64 = 1 := by omega
  refine numS_none _ ?_
  show (if ([] : List Nat).length + 1 < 2 ^ ((64 + m / 256) / 64) then none else _) = none
  rw [h1, if_pos (by decide)]
theorem long6_back (sp tot : Nat) (to fr : List Nat) (m : Nat) (hm : m ≤ 1300) (r : List Nat) (hr : m ≤ r.length) : long6 sp tot to fr ((64 + m / 256) :: (m % 256) :: r) 0 = ⟨sp, to, fr, tot - r.length, tot - r.length + m, 0⟩ := by
  unfold long6
  rw [num_two m hm]
  have e : lackN (m, r, 0) = 0 := if_neg (fun e => by have := e.2; dsimp only at this; omega)
  rw [e, if_neg (by decide)]
theorem long_parts (sp : Nat) (to fr : List Nat) (m : Nat) (r : List Nat) : longB sp to fr m ++ r = [0, 0, 0, 1] ++ ([8] ++ (to ++ ([8] ++ (fr ++ (zeroB sp ++ ((64 + m / 256) :: (m % 256) :: r)))))) := by
  unfold longB
  simp only [List.append_assoc, List.cons_append, List.nil_append]
theorem long_back (sp : Nat) (hs : sp = 0 ∨ sp = 1) (to fr : List Nat) (ht : to.length = 8) (hf : fr.length = 8) (n : Nat) (hn : 1 ≤ n ∧ n ≤ 4) (m : Nat) (hm : m ≤ 1300) (tot : Nat) (r : List Nat) (hr : m ≤ r.length) :
    longF (191 + 32 * sp + n) tot (longB sp to fr m ++ r) = ⟨sp, to, fr, tot - r.length, tot - r.length + m, 0⟩ := by
  have hsp : (191 + 32 * sp + n) / 32 % 2 = sp := by omega
  unfold longF
  rw [hsp, long_parts, tkS_app (n := 4) [0, 0, 0, 1] _ rfl]
  dsimp only
  rw [if_neg (by simp)]
  unfold long1
  rw [tkS_app (n := 1) [8] _ rfl]
  dsimp only
  rw [if_neg (by decide)]
  unfold long2
  rw [tkS_app to _ ht]
  dsimp only
  unfold long3
  rw [tkS_app (n := 1) [8] _ rfl]
  dsimp only
  rw [if_neg (by decide)]
  unfold long4
  rw [tkS_app fr _ hf]
  dsimp only
  unfold long5
  rcases hs with rfl | rfl
  · rw [if_pos rfl, show zeroB 0 = [0] from rfl, tkS_app (n := 1) [0] _ rfl]
    dsimp only
    rw [if_neg (by decide)]
    exact long6_back 0 tot to fr m hm r hr
  · rw [if_neg (by decide), show zeroB 1 = [] from rfl, List.nil_append]
    exact long6_back 1 tot to fr m hm r hr
theorem beL_len (n k : Nat) : (beL n k).length = k := beL_length n k
/-- What is put is taken, whatever stands behind. -/
theorem take_back (sp : Nat) (hs : sp ≤ 2) (to fr : List Nat) (ht : to.length = 8) (hf : fr.length = 8) (pn n size : Nat) (hn : 1 ≤ n ∧ n ≤ 4) (hz : size ≤ 1200) (r : List Nat) (hr : size ≤ r.length) :
    takeF (headB sp to fr pn n size ++ r) = ⟨sp, to, (if sp = 2 then [] else fr), (headB sp to fr pn n size).length - n, (if sp = 2 then (headB sp to fr pn n size ++ r).length else (headB sp to fr pn n size).length + size), 0⟩ := by
  by_cases h2 : sp = 2
  · subst h2
    rw [if_pos rfl, if_pos rfl]
    have e : headB 2 to fr pn n size = (63 + n) :: (to ++ beL pn n) := if_pos rfl
    rw [e]
    show (if 63 + n < 128 then if 63 + n < 64 then noHd 5 else if (to ++ beL pn n ++ r).length < 8 then noHd 3 else ⟨2, (to ++ beL pn n ++ r).take 8, [], 9, (to ++ beL pn n ++ r).length + 1, 0⟩ else _) = _
    rw [if_pos (by omega), if_neg (by omega), if_neg (by simp only [List.length_append]; omega), List.append_assoc, List.take_append_of_le_length (by omega), List.take_of_length_le (by omega)]
    have e1 : ((63 + n) :: (to ++ beL pn n)).length - n = 9 := by
      rw [List.length_cons, List.length_append, beL_len, ht]
      omega
    rw [e1]
    simp only [List.cons_append, List.length_cons, List.append_assoc]
  · rw [if_neg h2, if_neg h2]
    have e : headB sp to fr pn n size = (191 + 32 * sp + n) :: (longB sp to fr (n + size) ++ beL pn n) := if_neg h2
    have hs' : sp = 0 ∨ sp = 1 := by omega
    rw [e]
    show (if 191 + 32 * sp + n < 128 then _ else if (191 + 32 * sp + n) / 64 % 2 = 0 ∨ (191 + 32 * sp + n) / 16 % 2 = 1 then noHd 5 else longF (191 + 32 * sp + n) ((longB sp to fr (n + size) ++ beL pn n ++ r).length + 1) (longB sp to fr (n + size) ++ beL pn n ++ r)) = _
    rw [if_neg (by omega), if_neg (by omega), List.append_assoc, long_back sp hs' to fr ht hf n hn (n + size) (by omega) _ _ (by rw [List.length_append, beL_len]; omega)]
    simp only [List.length_append, List.length_cons, beL_len]
    congr 1 <;> omega
theorem long6_cut (sp tot : Nat) (to fr : List Nat) (m : Nat) (hm : m ≤ 1300) (r : List Nat) (hr : r.length ≤ m) (k : Nat) (hk : k < 2 + r.length) : long6 sp tot to fr (((64 + m / 256) :: (m % 256) :: r).take k) 0 = noHd 3 := by
  match k, hk with
  | 0, _ => rfl
  | 1, _ =>
    show long6 sp tot to fr [64 + m / 256] 0 = _
    unfold long6
    rw [num_one_less m hm]
    rfl
  | j + 2, h =>
    show long6 sp tot to fr ((64 + m / 256) :: (m % 256) :: r.take j) 0 = _
    unfold long6
    rw [num_two m hm]
    have e : lackN (m, r.take j, 0) = 3 := if_pos ⟨rfl, by dsimp only; rw [List.length_take]; omega⟩
    rw [e, if_pos (by decide)]
theorem long_cut (sp : Nat) (hs : sp = 0 ∨ sp = 1) (to fr : List Nat) (ht : to.length = 8) (hf : fr.length = 8) (n : Nat) (hn : 1 ≤ n ∧ n ≤ 4) (m : Nat) (hm : m ≤ 1300) (tot : Nat) (r : List Nat) (hr : r.length ≤ m) (k : Nat) (hk : k < (longB sp to fr m ++ r).length) :
    longF (191 + 32 * sp + n) tot ((longB sp to fr m ++ r).take k) = noHd 3 := by
  have hsp : (191 + 32 * sp + n) / 32 % 2 = sp := by omega
  rw [long_parts] at hk ⊢
  simp only [List.length_append, List.length_cons, List.length_nil] at hk
  have n3 : (3 : Nat) ≠ 0 := by decide
  unfold longF
  rw [hsp, tkS_cut (n := 4) [0, 0, 0, 1] _ k rfl]
  by_cases h4 : k < 4
  · rw [if_pos h4]
    dsimp only
    rw [if_neg (by decide)]
    exact long1_f _ _ _ n3
  rw [if_neg h4]
  dsimp only
  rw [if_neg (by simp)]
  unfold long1
  rw [tkS_cut (n := 1) [8] _ _ rfl]
  by_cases h5 : k - 4 < 1
  · rw [if_pos h5]
    dsimp only
    rw [fail_if _ n3]
    exact long2_f _ _ _ n3
  rw [if_neg h5]
  dsimp only
  rw [if_neg (by decide)]
  unfold long2
  rw [tkS_cut to _ _ ht]
  by_cases h13 : k - 4 - 1 < 8
  · rw [if_pos h13]
    exact long3_f _ _ _ _ n3
  rw [if_neg h13]
  dsimp only
  unfold long3
  rw [tkS_cut (n := 1) [8] _ _ rfl]
  by_cases h14 : k - 4 - 1 - 8 < 1
  · rw [if_pos h14]
    dsimp only
    rw [fail_if _ n3]
    exact long4_f _ _ _ _ n3
  rw [if_neg h14]
  dsimp only
  rw [if_neg (by decide)]
  unfold long4
  rw [tkS_cut fr _ _ hf]
  by_cases h22 : k - 4 - 1 - 8 - 1 < 8
  · rw [if_pos h22]
    exact long5_f _ _ _ _ _ n3
  rw [if_neg h22]
  dsimp only
  unfold long5
  rcases hs with rfl | rfl
  · rw [if_pos rfl, show zeroB 0 = [0] from rfl, tkS_cut (n := 1) [0] _ _ rfl]
    rw [show (zeroB 0).length = 1 from rfl] at hk
    by_cases h23 : k - 4 - 1 - 8 - 1 - 8 < 1
    · rw [if_pos h23]
      dsimp only
      rw [fail_if _ n3]
      exact long6_f _ _ _ _ _ n3
    rw [if_neg h23]
    dsimp only
    rw [if_neg (by decide)]
    exact long6_cut 0 tot to fr m hm r hr _ (by omega)
  · rw [if_neg (by decide), show zeroB 1 = [] from rfl, List.nil_append]
    rw [show (zeroB 1).length = 0 from rfl] at hk
    exact long6_cut 1 tot to fr m hm r hr _ (by omega)
/-- With bytes lacking it is short. -/
theorem take_cut (sp : Nat) (hs : sp = 0 ∨ sp = 1) (to fr : List Nat) (ht : to.length = 8) (hf : fr.length = 8) (pn n size : Nat) (hn : 1 ≤ n ∧ n ≤ 4) (hz : size ≤ 1200) (k : Nat) (hk : k < (headB sp to fr pn n size).length) : takeF ((headB sp to fr pn n size).take k) = noHd 3 := by
  have e : headB sp to fr pn n size = (191 + 32 * sp + n) :: (longB sp to fr (n + size) ++ beL pn n) := if_neg (by omega)
  rw [e] at hk ⊢
  cases k with
  | zero => rfl
  | succ k =>
    show (if 191 + 32 * sp + n < 128 then _ else if (191 + 32 * sp + n) / 64 % 2 = 0 ∨ (191 + 32 * sp + n) / 16 % 2 = 1 then noHd 5 else longF (191 + 32 * sp + n) _ ((longB sp to fr (n + size) ++ beL pn n).take k)) = _
    rw [if_neg (by omega), if_neg (by omega)]
    exact long_cut sp hs to fr ht hf n hn (n + size) (by omega) _ _ (by rw [beL_len]; omega) k (by simp only [List.length_cons] at hk; omega)
end Go.Proofs.Ytfhiflakglhneaa
