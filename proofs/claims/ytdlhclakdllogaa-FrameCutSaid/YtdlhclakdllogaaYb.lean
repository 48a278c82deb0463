/- Short numbers as plain arithmetic: put, read, wider than need be, cut. -/
import Derived.Test.YtdlhclakdllogaaBg
namespace Go.Proofs.Ytdlhclakdllogaa
open Go

/-- A number's kind: its size is 2 to the power of it. -/
def vtop (n : Nat) : Nat := if n < 64 then 0 else if n < 16384 then 1 else if n < 1073741824 then 2 else 3
/-- A number as so many bytes, the greatest first. -/
def beL (n : Nat) : Nat → List Nat
  | 0 => []
  | k + 1 => n / 256 ^ k % 256 :: beL n k
/-- A number of kind k. -/
def wide (m k : Nat) : List Nat := match beL m (2 ^ k) with
  | [] => []
  | x :: r => (x + 64 * k) :: r
def vput (n : Nat) : List Nat := wide n (vtop n)
def vputs (l : List Nat) : List Nat := (l.map vput).flatten
/-- Bytes as a number. -/
def beN (a : Nat) : List Nat → Nat
  | [] => a
  | x :: r => beN (a * 256 + x) r
/-- A short number, and what is left. -/
def takeV : List Nat → Option (Nat × List Nat)
  | [] => none
  | x :: r => if r.length + 1 < 2 ^ (x / 64) then none else some (beN (x % 64) (r.take (2 ^ (x / 64) - 1)), r.drop (2 ^ (x / 64) - 1))
theorem beL_length (n : Nat) : ∀ k, (beL n k).length = k
  | 0 => rfl
  | k + 1 => by
    show (beL n k).length + 1 = _
    rw [beL_length n k]
theorem beL_bytes (n : Nat) : ∀ k, ∀ x ∈ beL n k, x < 256
  | 0, _, h => by cases h
  | k + 1, x, h => by
    rcases List.mem_cons.1 h with rfl | h
    · exact Nat.mod_lt _ (by decide)
    · exact beL_bytes n k x h
theorem beN_beL (n : Nat) : ∀ k a, beN a (beL n k) = a * 256 ^ k + n % 256 ^ k
  | 0, a => by
    show a = a * 1 + n % 1
    omega
  | k + 1, a => by
    show beN (a * 256 + n / 256 ^ k % 256) (beL n k) = _
    rw [beN_beL n k, Nat.pow_succ, Nat.add_mul, Nat.mod_mul, Nat.mul_assoc a, Nat.mul_comm 256 (256 ^ k), Nat.mul_comm (n / 256 ^ k % 256)]
    omega
theorem wide_length (m k : Nat) : (wide m k).length = 2 ^ k := by
  have h := beL_length m (2 ^ k)
  unfold wide
  cases e : beL m (2 ^ k) with
  | nil =>
    rw [e] at h
    have := Nat.pow_pos (n := k) (show 0 < 2 by decide)
    simp at h
    omega
  | cons x r =>
    rw [e] at h
    exact h
theorem pow_split (k : Nat) : 2 ^ k = (2 ^ k - 1) + 1 := by
  have := Nat.pow_pos (n := k) (show 0 < 2 by decide)
  omega
/-- What is written as a number of kind k is read as it. -/
theorem takeV_wide (m k : Nat) (_hk : k ≤ 3) (hm : m < 2 ^ (8 * 2 ^ k - 2)) (r : List Nat) : takeV (wide m k ++ r) = some (m, r) := by
  have e : beL m (2 ^ k) = m / 256 ^ (2 ^ k - 1) % 256 :: beL m (2 ^ k - 1) := by
    conv => lhs; rw [pow_split k]
    rfl
  have hx : m / 256 ^ (2 ^ k - 1) < 64 := by
    rw [Nat.div_lt_iff_lt_mul (Nat.pow_pos (by decide)), show 64 * 256 ^ (2 ^ k - 1) = 2 ^ (8 * 2 ^ k - 2) by
      rw [show (256 : Nat) = 2 ^ 8 from rfl, ← Nat.pow_mul, show (64 : Nat) = 2 ^ 6 from rfl, ← Nat.pow_add]
      congr 1
      have := pow_split k
      omega]
    exact hm
  have lr := beL_length m (2 ^ k - 1)
  have ew : wide m k = (m / 256 ^ (2 ^ k - 1) + 64 * k) :: beL m (2 ^ k - 1) := by
    unfold wide
    rw [e]
    show (m / 256 ^ (2 ^ k - 1) % 256 + 64 * k) :: _ = _
    rw [Nat.mod_eq_of_lt (by omega)]
  have hN := beN_beL m (2 ^ k - 1) (m / 256 ^ (2 ^ k - 1))
  have hdm : m / 256 ^ (2 ^ k - 1) * 256 ^ (2 ^ k - 1) + m % 256 ^ (2 ^ k - 1) = m := by
    rw [Nat.mul_comm]
    exact Nat.div_add_mod _ _
  rw [hdm] at hN
  rw [ew]
  generalize m / 256 ^ (2 ^ k - 1) = x at *
  generalize beL m (2 ^ k - 1) = t at *
  show (if (t ++ r).length + 1 < 2 ^ ((x + 64 * k) / 64) then none else some (beN ((x + 64 * k) % 64) ((t ++ r).take (2 ^ ((x + 64 * k) / 64) - 1)), (t ++ r).drop (2 ^ ((x + 64 * k) / 64) - 1))) = _
  have e1 : (x + 64 * k) / 64 = k := by omega
  have e2 : (x + 64 * k) % 64 = x := by omega
  rw [e1, e2, if_neg (by rw [List.length_append, lr]; have := pow_split k; omega), List.take_left' lr, List.drop_left' lr, hN]
/-- Cut it is short. -/
theorem takeV_cut (m k : Nat) (_hk : k ≤ 3) (hm : m < 2 ^ (8 * 2 ^ k - 2)) (j : Nat) (hj : j < 2 ^ k) : takeV ((wide m k).take j) = none := by
  have e : beL m (2 ^ k) = m / 256 ^ (2 ^ k - 1) % 256 :: beL m (2 ^ k - 1) := by
    conv => lhs; rw [pow_split k]
    rfl
  have hx : m / 256 ^ (2 ^ k - 1) < 64 := by
    rw [Nat.div_lt_iff_lt_mul (Nat.pow_pos (by decide)), show 64 * 256 ^ (2 ^ k - 1) = 2 ^ (8 * 2 ^ k - 2) by
      rw [show (256 : Nat) = 2 ^ 8 from rfl, ← Nat.pow_mul, show (64 : Nat) = 2 ^ 6 from rfl, ← Nat.pow_add]
      congr 1
      have := pow_split k
      omega]
    exact hm
  have lr := beL_length m (2 ^ k - 1)
  have ew : wide m k = (m / 256 ^ (2 ^ k - 1) + 64 * k) :: beL m (2 ^ k - 1) := by
    unfold wide
    rw [e]
    show (m / 256 ^ (2 ^ k - 1) % 256 + 64 * k) :: _ = _
    rw [Nat.mod_eq_of_lt (by omega)]
  rw [ew]
  cases j with
  | zero => rfl
  | succ j =>
    generalize m / 256 ^ (2 ^ k - 1) = x at *
    generalize beL m (2 ^ k - 1) = t at *
    show (if (t.take j).length + 1 < 2 ^ ((x + 64 * k) / 64) then none else _) = none
    have e1 : (x + 64 * k) / 64 = k := by omega
    rw [e1, if_pos (by rw [List.length_take]; omega)]
theorem vtop_le (n : Nat) : vtop n ≤ 3 := by
  unfold vtop
  split
  · decide
  · split
    · decide
    · split <;> decide
theorem vtop_fits (n : Nat) (hn : n < 4611686018427387904) : n < 2 ^ (8 * 2 ^ vtop n - 2) := by
  unfold vtop
  split
  · assumption
  · split
    · assumption
    · split
      · assumption
      · exact hn
theorem vput_length (n : Nat) : (vput n).length = 2 ^ vtop n := wide_length _ _
theorem vput_pos (n : Nat) : 0 < (vput n).length := by
  rw [vput_length]
  exact Nat.pow_pos (by decide)
theorem takeV_vput (n : Nat) (hn : n < 4611686018427387904) (r : List Nat) : takeV (vput n ++ r) = some (n, r) := takeV_wide n _ (vtop_le n) (vtop_fits n hn) r
theorem takeV_short (n : Nat) (hn : n < 4611686018427387904) (j : Nat) (hj : j < (vput n).length) : takeV ((vput n).take j) = none :=
  takeV_cut n _ (vtop_le n) (vtop_fits n hn) j (by rw [← vput_length]; exact hj)
theorem vputs_cons (n : Nat) (l : List Nat) : vputs (n :: l) = vput n ++ vputs l := rfl
theorem vputs_append (a b : List Nat) : vputs (a ++ b) = vputs a ++ vputs b := by
  unfold vputs
  rw [List.map_append, List.flatten_append]
theorem vputs_one (n : Nat) : vputs [n] = vput n := by
  show vput n ++ [] = _
  rw [List.append_nil]
/-- How many bytes are put. -/
def vsize (l : List Nat) : Nat := (l.map fun n => 2 ^ vtop n).sum
theorem vputs_length : ∀ l, (vputs l).length = vsize l
  | [] => rfl
  | n :: l => by
    rw [vputs_cons, List.length_append, vput_length, vputs_length l]
    rfl
theorem wide_bytes (m k : Nat) (hk : k ≤ 3) (hm : m < 2 ^ (8 * 2 ^ k - 2)) : ∀ x ∈ wide m k, x < 256 := by
  have e : beL m (2 ^ k) = m / 256 ^ (2 ^ k - 1) % 256 :: beL m (2 ^ k - 1) := by
    conv => lhs; rw [pow_split k]
    rfl
  have hx : m / 256 ^ (2 ^ k - 1) < 64 := by
    rw [Nat.div_lt_iff_lt_mul (Nat.pow_pos (by decide)), show 64 * 256 ^ (2 ^ k - 1) = 2 ^ (8 * 2 ^ k - 2) by
      rw [show (256 : Nat) = 2 ^ 8 from rfl, ← Nat.pow_mul, show (64 : Nat) = 2 ^ 6 from rfl, ← Nat.pow_add]
      congr 1
      have := pow_split k
      omega]
    exact hm
  intro x h
  unfold wide at h
  rw [e] at h
  rcases List.mem_cons.1 h with rfl | h
  · generalize m / 256 ^ (2 ^ k - 1) = d at *
    omega
  · exact beL_bytes _ _ x h
theorem vput_bytes (n : Nat) (hn : n < 4611686018427387904) : ∀ x ∈ vput n, x < 256 := wide_bytes n _ (vtop_le n) (vtop_fits n hn)
theorem vputs_bytes : ∀ l : List Nat, (∀ n ∈ l, n < 4611686018427387904) → ∀ x ∈ vputs l, x < 256
  | [], _, _, h => by cases h
  | n :: l, hl, x, h => by
    rw [vputs_cons] at h
    rcases List.mem_append.1 h with h | h
    · exact vput_bytes n (hl n (by simp)) x h
    · exact vputs_bytes l (fun m hm => hl m (by simp [hm])) x h
/-- A reader's next number: it, what is left, the fault. -/
def numS (l : List Nat) (c : Nat) : Nat × List Nat × Nat := if c ≠ 0 then (0, l, c) else match takeV l with
  | none => (0, l, 3)
  | some (n, r) => (n, r, 0)
theorem numS_put (n : Nat) (hn : n < 4611686018427387904) (r : List Nat) : numS (vput n ++ r) 0 = (n, r, 0) := by
  unfold numS
  rw [if_neg (by decide), takeV_vput n hn]
theorem numS_fault (l : List Nat) (c : Nat) (hc : c ≠ 0) : numS l c = (0, l, c) := if_pos hc
theorem numS_none (l : List Nat) (h : takeV l = none) : numS l 0 = (0, l, 3) := by
  unfold numS
  rw [if_neg (by decide), h]
/-- Numbers read one by one out of all but the last byte: behind the last of them there is a fault. -/
def afterS : List Nat → List Nat → Nat → List Nat × Nat
  | [], l, c => (l, c)
  | _ :: ns, l, c => afterS ns (numS l c).2.1 (numS l c).2.2
theorem afterS_short : ∀ (ns : List Nat) (n : Nat), (∀ m ∈ n :: ns, m < 4611686018427387904) → (afterS (n :: ns) ((vputs (n :: ns)).take ((vputs (n :: ns)).length - 1)) 0).2 = 3
  | [], n, h => by
    have hn := h n (by simp)
    rw [vputs_one]
    have e := takeV_short n hn ((vput n).length - 1) (by have := vput_pos n; omega)
    show (afterS [] (numS _ 0).2.1 (numS _ 0).2.2).2 = 3
    rw [numS_none _ e]
    rfl
  | m :: ns, n, h => by
    have hn := h n (by simp)
    have ih := afterS_short ns m (fun x hx => h x (by simp [hx]))
    have hp : 0 < (vputs (m :: ns)).length := by
      rw [vputs_cons, List.length_append]
      have := vput_pos m
      omega
    have e : (vputs (n :: m :: ns)).take ((vputs (n :: m :: ns)).length - 1) = vput n ++ (vputs (m :: ns)).take ((vputs (m :: ns)).length - 1) := by
      rw [vputs_cons n, List.length_append, List.take_append, List.take_of_length_le (by omega), show (vput n).length + (vputs (m :: ns)).length - 1 - (vput n).length = (vputs (m :: ns)).length - 1 by omega]
    rw [e]
    show (afterS (m :: ns) (numS _ 0).2.1 (numS _ 0).2.2).2 = 3
    rw [numS_put n hn]
    exact ih
end Go.Proofs.Ytdlhclakdllogaa
/- Slices of words of 64 bits: read, owned, appended to. -/
namespace Go.Proofs.Ytdlhclakdllogaa
open Go.RowKit

/-- The words l lie in block g, from cell o on. -/
structure UA (w : World) (g o : Nat) (l : List Nat) : Prop where
  cell : ∀ (i : Nat) (h : i < l.length), w.cell? ⟨g, o + i, none⟩ = some (.int .u64 ((l[i] : Nat) : Int))
  blk : g < w.heap.size
theorem UA.below {w w1 : World} {g o : Nat} {l : List Nat} (h : UA w g o l) (hb : Below w.heap.size w w1) : UA w1 g o l :=
  ⟨fun i hi => (hb.cell (p := ⟨g, o + i, none⟩) h.blk).trans (h.cell i hi), Nat.lt_of_lt_of_le h.blk hb.size⟩
theorem UA.of_block {w w1 : World} {g o : Nat} {l : List Nat} (h : UA w g o l) (hb : w1.heap[g]? = w.heap[g]?) : UA w1 g o l := by
  have hlt : g < w1.heap.size := by
    rcases Nat.lt_or_ge g w1.heap.size with h1 | h1
    · exact h1
    · rw [Array.getElem?_eq_none h1, Array.getElem?_eq_getElem h.blk] at hb
      cases hb
  exact ⟨fun i hi => (cell_congr hb).trans (h.cell i hi), hlt⟩
/-- A slice that reads as the words l; an empty one may be nil. -/
def SU (w : World) (v : Value) (l : List Nat) : Prop := ∃ p c, v = .slice p l.length c ∧ l.length ≤ c ∧ (l = [] ∨ ∃ g o, p = some ⟨g, o, none⟩ ∧ UA w g o l)
theorem SU.below {w w1 : World} {v : Value} {l : List Nat} (h : SU w v l) (hb : Below w.heap.size w w1) : SU w1 v l := by
  obtain ⟨p, c, h1, h2, h3⟩ := h
  refine ⟨p, c, h1, h2, ?_⟩
  rcases h3 with h3 | ⟨g, o, h4, h5⟩
  · exact Or.inl h3
  · exact Or.inr ⟨g, o, h4, h5.below hb⟩
theorem SU.drew {w : World} {v : Value} {l : List Nat} (h : SU w v l) : SU w.drew v l := h.below (below_drew (Below.refl _ _))
theorem SU.nil (w : World) (p : Option Addr) (c : Nat) : SU w (.slice p 0 c) [] := ⟨p, c, rfl, Nat.zero_le _, Or.inl rfl⟩
theorem SU.len {w : World} {p : Option Addr} {n c : Nat} {l : List Nat} (h : SU w (.slice p n c) l) : n = l.length ∧ l.length ≤ c := by
  obtain ⟨q, d, e, hc, h1⟩ := h
  simp only [Value.slice.injEq] at e
  obtain ⟨rfl, rfl, rfl⟩ := e
  exact ⟨rfl, hc⟩
theorem SU.at_ {w : World} {p : Option Addr} {n c : Nat} {l : List Nat} (h : SU w (.slice p n c) l) : n = 0 ∨ ∃ g o, p = some ⟨g, o, none⟩ ∧ UA w g o l := by
  obtain ⟨q, d, e, hc, h1⟩ := h
  simp only [Value.slice.injEq] at e
  obtain ⟨rfl, rfl, rfl⟩ := e
  rcases h1 with h1 | h1
  · exact Or.inl (by rw [h1]; rfl)
  · exact Or.inr h1
theorem info_u64_all : (Try.prog.info? 22).map (fun i => (i.size, i.bytes)) = some (1, 8) := by kernel_rfl
theorem info_u64_zero : (Try.prog.info? 22).map (fun i => i.zero) = some (some (.int .u64 0)) := by kernel_rfl
theorem info_u64 : ∃ i, Try.prog.info? 22 = some i ∧ i.size = 1 ∧ i.bytes = 8 ∧ i.zero = some (.int .u64 0) := by
  have h1 := info_u64_all
  have h2 := info_u64_zero
  cases h : Try.prog.info? 22 with
  | none => rw [h] at h1; cases h1
  | some i =>
    rw [h] at h1 h2
    simp only [Option.map_some, Option.some.injEq, Prod.mk.injEq] at h1 h2
    exact ⟨i, rfl, h1.1, h1.2, h2⟩
def valu (l : List Nat) : List Value := l.map fun x => .int .u64 ((x : Nat) : Int)
theorem valu_length (l : List Nat) : (valu l).length = l.length := by simp [valu]
theorem valu_append (a b : List Nat) : valu (a ++ b) = valu a ++ valu b := by simp [valu]
/-- The words l in a row of the call's own, at block B or behind it; nil where there is none. -/
def OwU (B : Nat) (w : World) (v : Value) (l : List Nat) : Prop := w.ownsRow B 22 1 v l.length (valu l)
theorem OwU.nil (B : Nat) (w : World) : OwU B w (.slice none 0 0) [] := ⟨rfl, .inl ⟨rfl, rfl⟩⟩
theorem OwU.row {B : Nat} {w : World} {v : Value} {l : List Nat} (h : OwU B w v l) : (v = .slice none 0 0 ∧ l = []) ∨ ∃ g cap, v = .slice (some ⟨g, 0, none⟩) l.length cap ∧ B ≤ g ∧ l.length ≤ cap ∧ cap ≤ maxLen ∧ UA w g 0 l := by
  obtain ⟨hl, hr⟩ := h
  rcases hr with ⟨rfl, h0⟩ | ⟨g, cap, cur, rfl, hB, hg, hnc, hcm, hcs, htake⟩
  · exact Or.inl ⟨rfl, List.eq_nil_of_length_eq_zero h0⟩
  · refine Or.inr ⟨g, cap, rfl, hB, hnc, hcm, fun i hi => ?_, ?_⟩
    · rw [Nat.zero_add, cell_of_row w g i cur _ _ hg, ← Array.getElem?_toList]
      have := List.getElem?_take (l := cur.toList) (i := l.length * 1) (j := i)
      rw [htake, if_pos (by omega)] at this
      rw [← this]
      simp [valu, hi]
    · rcases Nat.lt_or_ge g w.heap.size with h | h
      · exact h
      · rw [Array.getElem?_eq_none h] at hg
        cases hg
theorem OwU.su {B : Nat} {w : World} {v : Value} {l : List Nat} (h : OwU B w v l) : SU w v l := by
  rcases h.row with ⟨rfl, rfl⟩ | ⟨g, cap, rfl, _, hc, _, hb⟩
  · exact SU.nil w none 0
  · exact ⟨_, cap, rfl, hc, Or.inr ⟨g, 0, rfl, hb⟩⟩
theorem OwU.of_block {B : Nat} {w w' : World} {v : Value} {l : List Nat} (h : OwU B w v l) (hb : ∀ g, v.ownBlock = some g → w'.heap[g]? = w.heap[g]?) : OwU B w' v l := by
  obtain ⟨hl, hr⟩ := h
  refine ⟨hl, ?_⟩
  rcases hr with h | ⟨g, cap, cur, rfl, hB, hg, hnc, hcm, hcs, htake⟩
  · exact Or.inl h
  · exact Or.inr ⟨g, cap, cur, rfl, hB, (hb g rfl).trans hg, hnc, hcm, hcs, htake⟩
theorem OwU.lt {B : Nat} {w : World} {v : Value} {l : List Nat} (h : OwU B w v l) (g : Nat) (hg : v.ownBlock = some g) : B ≤ g ∧ g < w.heap.size := by
  rcases h.row with ⟨rfl, _⟩ | ⟨g', cap, rfl, hB, _, _, hb⟩
  · cases hg
  · simp only [Value.ownBlock, Option.some.injEq] at hg
    exact ⟨by omega, by have := hb.blk; omega⟩
theorem OwU.below {B : Nat} {w w' : World} {v : Value} {l : List Nat} (h : OwU B w v l) (hb : Below w.heap.size w w') : OwU B w' v l :=
  h.of_block fun g hg => hb.block g (h.lt g hg).2
theorem OwU.shape {B : Nat} {w : World} {v : Value} {l : List Nat} (h : OwU B w v l) : ∃ p c, v = .slice p l.length c := by
  rcases h.row with ⟨rfl, rfl⟩ | ⟨g, c, rfl, _⟩
  · exact ⟨none, 0, rfl⟩
  · exact ⟨_, c, rfl⟩
/-- Words appended to a row of one's own. -/
theorem append_ua (B : Nat) (w : World) (ty : TypeId) (v : Value) (l m : List Nat) (hv : OwU B w v l) (g o c : Nat) (hx : UA w g o m) (hlm : l.length + m.length ≤ 1000000) (hB : B ≤ w.heap.size) :
    ∃ v' w', (Builtin.append_ #[49, 49] ty #[v, .slice (some ⟨g, o, none⟩) m.length c]).run Try.prog w = .ok v' w' ∧ OwU B w' v' (l ++ m) ∧ w.grownBy w' v.ownBlock ∧ (v'.ownBlock = v.ownBlock ∨ v'.ownBlock = some w.heap.size) := by
  obtain ⟨i, hi, hs, hy, hz⟩ := info_u64
  obtain ⟨v', w', hr, h2, h3, h4, h5⟩ := run_append_own_at (P := Try.prog) w B 49 ty 22 i (.int .u64 0) 1 8 Try.underlying49 hi hz hs hy rfl (by decide) v l.length (valu l) hv ⟨g, o, none⟩ m.length c (valu m) (by rw [valu_length, Nat.mul_one])
    (fun j u hu => by
      have hj : j < m.length := by
        have := (List.getElem?_eq_some_iff.1 hu).1
        rwa [valu_length] at this
      unfold valu at hu
      rw [List.getElem?_map, List.getElem?_eq_getElem hj] at hu
      rw [Addr.add_lit, hx.cell j hj]
      exact hu) (fun u hu => by
      obtain ⟨x, _, rfl⟩ := List.mem_map.1 hu
      rfl) (by simp only [maxLen]; omega) (by omega) hB
  refine ⟨v', w', hr, ?_, h3, h5⟩
  unfold OwU
  rw [List.length_append, valu_append]
  exact h2
theorem run_buildSlice_word (w : World) (x : Nat) : (Instr.buildSlice 49 1 #[(0, .int .u64 (x : Int))]).run Try.prog w = .ok (.slice (some ⟨w.heap.size, 0, none⟩) 1 1) (w.alloc (.cells #[.int .u64 (x : Int)] 22)) := by
  obtain ⟨i, hi, hs, _, hz⟩ := info_u64
  simp [Instr.buildSlice, run_underlying Try.underlying49, sizeOf, typeInfo, hi, hs, newRow, Instr.fill, Value.cells]
  refine congrArg (fun c => w.alloc (.cells c 22)) (Array.ext (by simp) (fun j h1 h2 => ?_))
  have : j = 0 := by
    simp at h2
    exact h2
  subst this
  simp
theorem wp_build_word {o : Oper} {a : Act} {w : World} {K : Act → World → Prop} {Q : Exit → Act → World → Prop} (x : Operand) (ho : o.op = .buildSlice 49 1 #[(0, x)]) (n : Nat) (hx : a.eval x = .int .u64 (n : Int))
    (h : K (a.put o.dst (.slice (some ⟨w.heap.size, 0, none⟩) 1 1)) (w.alloc (.cells #[.int .u64 (n : Int)] 22))) : o.wp Try.prog a w K Q := by
  unfold Oper.wp execOp
  simp only [ho, Sem.run_bind, List.map_toArray, List.map_cons, List.map_nil, hx, run_buildSlice_word, Result.andThen_ok, Sem.run_pure]
  exact h
/-- One word behind a row of one's own. -/
theorem append_word (B : Nat) (w0 w : World) (ty : TypeId) (v : Value) (l : List Nat) (x : Nat) (O : OwU B w v l) (hl : l.length ≤ 100000) (b : Below B w0 w) (hB : B ≤ w.heap.size) :
    ∃ v' w', (Builtin.append_ #[49, 49] ty #[v, .slice (some ⟨w.heap.size, 0, none⟩) 1 1]).run Try.prog (w.alloc (.cells #[.int .u64 ((x : Nat) : Int)] 22)) = .ok v' w' ∧ OwU B w' v' (l ++ [x]) ∧ Below B w0 w' := by
  have b1 := (Below.refl w.heap.size w).alloc (Nat.le_refl _) (.cells #[.int .u64 ((x : Nat) : Int)] 22)
  have hx : UA (w.alloc (.cells #[.int .u64 ((x : Nat) : Int)] 22)) w.heap.size 0 [x] := ⟨fun i hi => by
    have hi0 : i = 0 := by simp at hi; exact hi
    subst hi0
    exact Blk.cell (Blk.new w 22 #[.int .u64 ((x : Nat) : Int)]) 0, (Blk.new w 22 #[.int .u64 ((x : Nat) : Int)]).lt⟩
  have O1 := O.below b1
  obtain ⟨v', w', h1, h2, h3, h4⟩ := append_ua B _ ty v l [x] O1 w.heap.size 0 1 hx (by simp; omega) (by have := b1.size; omega)
  exact ⟨v', w', h1, h2, below_grown' (b.trans (b1.mono hB)) h3 (fun k hk => (O1.lt k hk).1) (by have := b1.size; omega)⟩
end Go.Proofs.Ytdlhclakdllogaa
