/- Short numbers as plain arithmetic: put, read, wider than need be, cut. -/
import Derived.Test.YtfhiflakglhneaaBg
namespace Go.Proofs.Ytfhiflakglhneaa
open Go

/-- A number's kind: its size is 2 to the power of it. -/
def vtop (n : Nat) : Nat := if n < 64 then 0 else if n < 16384 then 1 else if n < 1073741824 then 2 else 3
/-- A number as so many bytes, the greatest first. -/
def beL (n : Nat) : Nat → List Nat
  | 0 => []
  | k + 1 => n / 256 ^ k % 256 :: beL n k
/-- A number of kind k. -/
def wide (m k : Nat) : List Nat := match beL m (2 ^ k) with
  | [] => []
  | x :: r => (x + 64 * k) :: r
def vput (n : Nat) : List Nat := wide n (vtop n)
def vputs (l : List Nat) : List Nat := (l.map vput).flatten
/-- Bytes as a number. -/
def beN (a : Nat) : List Nat → Nat
  | [] => a
  | x :: r => beN (a * 256 + x) r
/-- A short number, and what is left. -/
def takeV : List Nat → Option (Nat × List Nat)
  | [] => none
  | x :: r => if r.length + 1 < 2 ^ (x / 64) then none else some (beN (x % 64) (r.take (2 ^ (x / 64) - 1)), r.drop (2 ^ (x / 64) - 1))
theorem beL_length (n : Nat) : ∀ k, (beL n k).length = k
  | 0 => rfl
  | k + 1 => by
    show (beL n k).length + 1 = _
    rw [beL_length n k]
theorem beL_bytes (n : Nat) : ∀ k, ∀ x ∈ beL n k, x < 256
  | 0, _, h => by cases h
  | k + 1, x, h => by
    rcases List.mem_cons.1 h with rfl | h
    · exact Nat.mod_lt _ (by decide)
    · exact beL_bytes n k x h
theorem beN_beL (n : Nat) : ∀ k a, beN a (beL n k) = a * 256 ^ k + n % 256 ^ k
  | 0, a => by
    show a = a * 1 + n % 1
    omega
  | k + 1, a => by
    show beN (a * 256 + n / 256 ^ k % 256) (beL n k) = _
    rw [beN_beL n k, Nat.pow_succ, Nat.add_mul, Nat.mod_mul, Nat.mul_assoc a, Nat.mul_comm 256 (256 ^ k), Nat.mul_comm (n / 256 ^ k % 256)]
    omega
theorem wide_length (m k : Nat) : (wide m k).length = 2 ^ k := by
  have h := beL_length m (2 ^ k)
  unfold wide
  cases e : beL m (2 ^ k) with
  | nil =>
    rw [e] at h
    have := Nat.pow_pos (n := k) (show 0 < 2 by decide)
    simp at h
    omega
  | cons x r =>
    rw [e] at h
    exact h
theorem pow_split (k : Nat) : 2 ^ k = (2 ^ k - 1) + 1 := by
  have := Nat.pow_pos (n := k) (show 0 < 2 by decide)
  omega
/-- What is written as a number of kind k is read as it. -/
theorem takeV_wide (m k : Nat) (_hk : k ≤ 3) (hm : m < 2 ^ (8 * 2 ^ k - 2)) (r : List Nat) : takeV (wide m k ++ r) = some (m, r) := by
  have e : beL m (2 ^ k) = m / 256 ^ (2 ^ k - 1) % 256 :: beL m (2 ^ k - 1) := by
    conv => lhs; rw [pow_split k]
    rfl
  have hx : m / 256 ^ (2 ^ k - 1) < 64 := by
    rw [Nat.div_lt_iff_lt_mul (Nat.pow_pos (by decide)), show 64 * 256 ^ (2 ^ k - 1) = 2 ^ (8 * 2 ^ k - 2) by
      rw [show (256 : Nat) = 2 ^ 8 from rfl, ← Nat.pow_mul, show (64 : Nat) = 2 ^ 6 from rfl, ← Nat.pow_add]
      congr 1
      have := pow_split k
      omega]
    exact hm
  have lr := beL_length m (2 ^ k - 1)
  have ew : wide m k = (m / 256 ^ (2 ^ k - 1) + 64 * k) :: beL m (2 ^ k - 1) := by
    unfold wide
    rw [e]
    show (m / 256 ^ (2 ^ k - 1) % 256 + 64 * k) :: _ = _
    rw [Nat.mod_eq_of_lt (by omega)]
  have hN := beN_beL m (2 ^ k - 1) (m / 256 ^ (2 ^ k - 1))
  have hdm : m / 256 ^ (2 ^ k - 1) * 256 ^ (2 ^ k - 1) + m % 256 ^ (2 ^ k - 1) = m := by
    rw [Nat.mul_comm]
    exact Nat.div_add_mod _ _
  rw [hdm] at hN
  rw [ew]
  generalize m / 256 ^ (2 ^ k - 1) = x at *
  generalize beL m (2 ^ k - 1) = t at *
  show (if (t ++ r).length + 1 < 2 ^ ((x + 64 * k) / 64) then none else some (beN ((x + 64 * k) % 64) ((t ++ r).take (2 ^ ((x + 64 * k) / 64) - 1)), (t ++ r).drop (2 ^ ((x + 64 * k) / 64) - 1))) = _
  have e1 : (x + 64 * k) / 64 = k := by omega
  have e2 : (x + 64 * k) % 64 = x := by omega
  rw [e1, e2, if_neg (by rw [List.length_append, lr]; have := pow_split k; omega), List.take_left' lr, List.drop_left' lr, hN]
/-- Cut it is short. -/
theorem takeV_cut (m k : Nat) (_hk : k ≤ 3) (hm : m < 2 ^ (8 * 2 ^ k - 2)) (j : Nat) (hj : j < 2 ^ k) : takeV ((wide m k).take j) = none := by
  have e : beL m (2 ^ k) = m / 256 ^ (2 ^ k - 1) % 256 :: beL m (2 ^ k - 1) := by
    conv => lhs; rw [pow_split k]
    rfl
  have hx : m / 256 ^ (2 ^ k - 1) < 64 := by
    rw [Nat.div_lt_iff_lt_mul (Nat.pow_pos (by decide)), show 64 * 256 ^ (2 ^ k - 1) = 2 ^ (8 * 2 ^ k - 2) by
      rw [show (256 : Nat) = 2 ^ 8 from rfl, ← Nat.pow_mul, show (64 : Nat) = 2 ^ 6 from rfl, ← Nat.pow_add]
      congr 1
      have := pow_split k
      omega]
    exact hm
  have lr := beL_length m (2 ^ k - 1)
  have ew : wide m k = (m / 256 ^ (2 ^ k - 1) + 64 * k) :: beL m (2 ^ k - 1) := by
    unfold wide
    rw [e]
    show (m / 256 ^ (2 ^ k - 1) % 256 + 64 * k) :: _ = _
    rw [Nat.mod_eq_of_lt (by omega)]
  rw [ew]
  cases j with
  | zero => rfl
  | succ j =>
    generalize m / 256 ^ (2 ^ k - 1) = x at *
    generalize beL m (2 ^ k - 1) = t at *
    show (if (t.take j).length + 1 < 2 ^ ((x + 64 * k) / 64) then none else _) = none
    have e1 : (x + 64 * k) / 64 = k := by omega
    rw [e1, if_pos (by rw [List.length_take]; omega)]
theorem vtop_le (n : Nat) : vtop n ≤ 3 := by
  unfold vtop
  split
  · decide
  · split
    · decide
    · split <;> decide
theorem vtop_fits (n : Nat) (hn : n < 4611686018427387904) : n < 2 ^ (8 * 2 ^ vtop n - 2) := by
  unfold vtop
  split
  · assumption
  · split
    · assumption
    · split
      · assumption
      · exact hn
theorem vput_length (n : Nat) : (vput n).length = 2 ^ vtop n := wide_length _ _
theorem vput_pos (n : Nat) : 0 < (vput n).length := by
  rw [vput_length]
  exact Nat.pow_pos (by decide)
theorem takeV_vput (n : Nat) (hn : n < 4611686018427387904) (r : List Nat) : takeV (vput n ++ r) = some (n, r) := takeV_wide n _ (vtop_le n) (vtop_fits n hn) r
theorem takeV_short (n : Nat) (hn : n < 4611686018427387904) (j : Nat) (hj : j < (vput n).length) : takeV ((vput n).take j) = none :=
  takeV_cut n _ (vtop_le n) (vtop_fits n hn) j (by rw [← vput_length]; exact hj)
theorem vputs_cons (n : Nat) (l : List Nat) : vputs (n :: l) = vput n ++ vputs l := rfl
theorem vputs_append (a b : List Nat) : vputs (a ++ b) = vputs a ++ vputs b := by
  unfold vputs
  rw [List.map_append, List.flatten_append]
theorem vputs_one (n : Nat) : vputs [n] = vput n := by
  show vput n ++ [] = _
  rw [List.append_nil]
/-- How many bytes are put. -/
def vsize (l : List Nat) : Nat := (l.map fun n => 2 ^ vtop n).sum
theorem vputs_length : ∀ l, (vputs l).length = vsize l
  | [] => rfl
  | n :: l => by
    rw [vputs_cons, List.length_append, vput_length, vputs_length l]
    rfl
theorem wide_bytes (m k : Nat) (hk : k ≤ 3) (hm : m < 2 ^ (8 * 2 ^ k - 2)) : ∀ x ∈ wide m k, x < 256 := by
  have e : beL m (2 ^ k) = m / 256 ^ (2 ^ k - 1) % 256 :: beL m (2 ^ k - 1) := by
    conv => lhs; rw [pow_split k]
    rfl
  have hx : m / 256 ^ (2 ^ k - 1) < 64 := by
    rw [Nat.div_lt_iff_lt_mul (Nat.pow_pos (by decide)), show 64 * 256 ^ (2 ^ k - 1) = 2 ^ (8 * 2 ^ k - 2) by
      rw [show (256 : Nat) = 2 ^ 8 from rfl, ← Nat.pow_mul, show (64 : Nat) = 2 ^ 6 from rfl, ← Nat.pow_add]
      congr 1
      have := pow_split k
      omega]
    exact hm
  intro x h
  unfold wide at h
  rw [e] at h
  rcases List.mem_cons.1 h with rfl | h
  · generalize m / 256 ^ (2 ^ k - 1) = d at *
    omega
  · exact beL_bytes _ _ x h
theorem vput_bytes (n : Nat) (hn : n < 4611686018427387904) : ∀ x ∈ vput n, x < 256 := wide_bytes n _ (vtop_le n) (vtop_fits n hn)
theorem vputs_bytes : ∀ l : List Nat, (∀ n ∈ l, n < 4611686018427387904) → ∀ x ∈ vputs l, x < 256
  | [], _, _, h => by cases h
  | n :: l, hl, x, h => by
    rw [vputs_cons] at h
    rcases List.mem_append.1 h with h | h
    · exact vput_bytes n (hl n (by simp)) x h
    · exact vputs_bytes l (fun m hm => hl m (by simp [hm])) x h
/-- A reader's next number: it, what is left, the fault. -/
def numS (l : List Nat) (c : Nat) : Nat × List Nat × Nat := if c ≠ 0 then (0, l, c) else match takeV l with
  | none => (0, l, 3)
  | some (n, r) => (n, r, 0)
theorem numS_put (n : Nat) (hn : n < 4611686018427387904) (r : List Nat) : numS (vput n ++ r) 0 = (n, r, 0) := by
  unfold numS
  rw [if_neg (by decide), takeV_vput n hn]
theorem numS_fault (l : List Nat) (c : Nat) (hc : c ≠ 0) : numS l c = (0, l, c) := if_pos hc
theorem numS_none (l : List Nat) (h : takeV l = none) : numS l 0 = (0, l, 3) := by
  unfold numS
  rw [if_neg (by decide), h]
/-- Numbers read one by one out of all but the last byte: behind the last of them there is a fault. -/
def afterS : List Nat → List Nat → Nat → List Nat × Nat
  | [], l, c => (l, c)
  | _ :: ns, l, c => afterS ns (numS l c).2.1 (numS l c).2.2
theorem afterS_short : ∀ (ns : List Nat) (n : Nat), (∀ m ∈ n :: ns, m < 4611686018427387904) → (afterS (n :: ns) ((vputs (n :: ns)).take ((vputs (n :: ns)).length - 1)) 0).2 = 3
  | [], n, h => by
    have hn := h n (by simp)
    rw [vputs_one]
    have e := takeV_short n hn ((vput n).length - 1) (by have := vput_pos n; omega)
    show (afterS [] (numS _ 0).2.1 (numS _ 0).2.2).2 = 3
    rw [numS_none _ e]
    rfl
  | m :: ns, n, h => by
    have hn := h n (by simp)
    have ih := afterS_short ns m (fun x hx => h x (by simp [hx]))
    have hp : 0 < (vputs (m :: ns)).length := by
      rw [vputs_cons, List.length_append]
      have := vput_pos m
      omega
    have e : (vputs (n :: m :: ns)).take ((vputs (n :: m :: ns)).length - 1) = vput n ++ (vputs (m :: ns)).take ((vputs (m :: ns)).length - 1) := by
      rw [vputs_cons n, List.length_append, List.take_append, List.take_of_length_le (by omega), show (vput n).length + (vputs (m :: ns)).length - 1 - (vput n).length = (vputs (m :: ns)).length - 1 by omega]
    rw [e]
    show (afterS (m :: ns) (numS _ 0).2.1 (numS _ 0).2.2).2 = 3
    rw [numS_put n hn]
    exact ih
end Go.Proofs.Ytfhiflakglhneaa
