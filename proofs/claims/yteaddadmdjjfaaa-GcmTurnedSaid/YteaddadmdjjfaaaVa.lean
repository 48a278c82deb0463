/- Sealing and opening as plain arithmetic. -/
import Derived.Test.YteaddadmdjjfaaaGd
namespace Go.Proofs.Yteaddadmdjjfaaa
open Go

/-- A nonce as a function. -/
def nF (nonce : List Nat) (t : Nat) : Nat := nonce.getD t 0
/-- The counter block n, encrypted. -/
def ecL (k nonce : List Nat) (n : Nat) : List Nat := encL boxL k (LB (counterF (nF nonce) n))
def strF (k nonce : List Nat) (i : Nat) : Nat := (ecL k nonce (i / 16 + 2)).getD (i % 16) 0
/-- Bytes joined with the stream. -/
def xorS (k nonce b : List Nat) : List Nat := (List.range b.length).map fun i => b.getD i 0 ^^^ strF k nonce i
def hK (k : List Nat) (i : Nat) : Nat := (encL boxL k (LB fun _ => 0)).getD i 0
def hashL (y h : Nat → Nat) (l : List Nat) : Nat → Nat := hashF y h l ((l.length + 15) / 16)
/-- A number of bits as eight bytes. -/
def bitsL (n : Nat) : List Nat := (List.range 8).map fun i => n * 8 / 2 ^ (56 - 8 * i) % 256
def lensL (n m : Nat) : List Nat := bitsL n ++ bitsL m
def tagY (k beside ct : List Nat) : Nat → Nat := hashL (hashL (hashL (fun _ => 0) (hK k) beside) (hK k) ct) (hK k) (lensL beside.length ct.length)
def tagL (k nonce beside ct : List Nat) : List Nat := LB fun i => tagY k beside ct i ^^^ (ecL k nonce 1).getD i 0
def sealL (k nonce beside b : List Nat) : List Nat := xorS k nonce b ++ tagL k nonce beside (xorS k nonce b)
def openL (k nonce beside s : List Nat) : Option (List Nat) :=
  if 16 ≤ s.length ∧ tagL k nonce beside (s.take (s.length - 16)) = s.drop (s.length - 16) then some (xorS k nonce (s.take (s.length - 16))) else none

theorem ecL_length (k nonce : List Nat) (n : Nat) : (ecL k nonce n).length = 16 := blockF_length _ _ _ _
theorem xorS_length (k nonce b : List Nat) : (xorS k nonce b).length = b.length := by simp [xorS]
theorem tagL_length (k nonce beside ct : List Nat) : (tagL k nonce beside ct).length = 16 := LB_length _
theorem sealL_length (k nonce beside b : List Nat) : (sealL k nonce beside b).length = b.length + 16 := by
  unfold sealL
  rw [List.length_append, xorS_length, tagL_length]
theorem xorS_get (k nonce b : List Nat) (i : Nat) (h : i < b.length) : (xorS k nonce b).getD i 0 = b.getD i 0 ^^^ strF k nonce i := by
  simp [xorS, List.getD_eq_getElem?_getD, List.getElem?_map, List.getElem?_range h]
theorem xor_back (a b : Nat) : a ^^^ b ^^^ b = a := by rw [Nat.xor_assoc, Nat.xor_self, Nat.xor_zero]
theorem ext0 {a b : List Nat} (hl : a.length = b.length) (h : ∀ t, t < a.length → a.getD t 0 = b.getD t 0) : a = b := by
  apply List.ext_getElem hl
  intro i h1 h2
  have := h i h1
  rw [List.getD_eq_getElem?_getD, List.getD_eq_getElem?_getD, List.getElem?_eq_getElem h1, List.getElem?_eq_getElem h2] at this
  exact this
theorem xorS_back (k nonce b : List Nat) : xorS k nonce (xorS k nonce b) = b := by
  refine ext0 (by rw [xorS_length, xorS_length]) fun t ht => ?_
  rw [xorS_length, xorS_length] at ht
  rw [xorS_get _ _ _ _ (by rw [xorS_length]; exact ht), xorS_get _ _ _ _ ht, xor_back]
theorem open_seal (k nonce beside b : List Nat) : openL k nonce beside (sealL k nonce beside b) = some b := by
  unfold openL
  have hl := sealL_length k nonce beside b
  have ht : (sealL k nonce beside b).take ((sealL k nonce beside b).length - 16) = xorS k nonce b := by
    rw [hl, Nat.add_sub_cancel]
    unfold sealL
    rw [List.take_append_of_le_length (by rw [xorS_length]; exact Nat.le_refl _), List.take_of_length_le (by rw [xorS_length]; exact Nat.le_refl _)]
  have hd : (sealL k nonce beside b).drop ((sealL k nonce beside b).length - 16) = tagL k nonce beside (xorS k nonce b) := by
    rw [hl, Nat.add_sub_cancel]
    unfold sealL
    have := List.drop_left (l₁ := xorS k nonce b) (l₂ := tagL k nonce beside (xorS k nonce b))
    rw [xorS_length] at this
    exact this
  rw [ht, hd, if_pos ⟨by omega, rfl⟩, xorS_back]
theorem seal_open {k nonce beside s c : List Nat} (h : openL k nonce beside s = some c) : sealL k nonce beside c = s := by
  unfold openL at h
  split at h
  · rename_i hh
    simp only [Option.some.injEq] at h
    subst h
    unfold sealL
    rw [xorS_back, hh.2, List.take_append_drop]
  · cases h
theorem open_short {k nonce beside s : List Nat} (h : s.length < 16) : openL k nonce beside s = none := if_neg (by omega)
theorem open_length {k nonce beside s c : List Nat} (h : openL k nonce beside s = some c) : c.length = s.length - 16 ∧ 16 ≤ s.length := by
  unfold openL at h
  split at h
  · rename_i hh
    simp only [Option.some.injEq] at h
    subst h
    rw [xorS_length, List.length_take]
    omega
  · cases h
/-- With the tag changed it isn't opened. -/
theorem open_turned (k nonce beside b : List Nat) (j x : Nat) (hj : j < 16) (hx : x ≠ (sealL k nonce beside b).getD (b.length + j) 0) : openL k nonce beside ((sealL k nonce beside b).set (b.length + j) x) = none := by
  unfold openL
  have hl := sealL_length k nonce beside b
  rw [if_neg]
  rintro ⟨h16, h⟩
  rw [List.length_set, hl, Nat.add_sub_cancel] at h
  have ht : ((sealL k nonce beside b).set (b.length + j) x).take b.length = xorS k nonce b := by
    rw [List.take_set_of_le (by omega)]
    unfold sealL
    rw [List.take_append_of_le_length (by rw [xorS_length]; exact Nat.le_refl _), List.take_of_length_le (by rw [xorS_length]; exact Nat.le_refl _)]
  rw [ht] at h
  have e := congrArg (fun l => l.getD j 0) h
  have e1 : (((sealL k nonce beside b).set (b.length + j) x).drop b.length).getD j 0 = x := by
    rw [List.getD_eq_getElem?_getD, List.getElem?_drop, List.getElem?_set, if_pos rfl, if_pos (by omega)]
    rfl
  have e2 : (sealL k nonce beside b).getD (b.length + j) 0 = (tagL k nonce beside (xorS k nonce b)).getD j 0 := by
    unfold sealL
    rw [List.getD_eq_getElem?_getD, List.getElem?_append_right (by rw [xorS_length]; omega), xorS_length, Nat.add_sub_cancel_left, ← List.getD_eq_getElem?_getD]
  exact hx (by rw [e2, e, e1])
/-- What is sealed, byte by byte. -/
theorem seal_get (k nonce beside b : List Nat) (i : Nat) (h : i < b.length) : (sealL k nonce beside b).getD i 0 = b.getD i 0 ^^^ strF k nonce i := by
  rw [← xorS_get k nonce b i h]
  unfold sealL
  rw [List.getD_eq_getElem?_getD, List.getElem?_append_left (by rw [xorS_length]; exact h), ← List.getD_eq_getElem?_getD]
theorem seal_take (k nonce d e a b : List Nat) : (sealL k nonce d a).take a.length = (sealL k nonce e (a ++ b)).take a.length := by
  refine ext0 ?_ fun t ht => ?_
  · rw [List.length_take, List.length_take, sealL_length, sealL_length, List.length_append]
    omega
  · rw [List.length_take, sealL_length] at ht
    rw [List.getD_eq_getElem?_getD, List.getElem?_take, if_pos (by omega), ← List.getD_eq_getElem?_getD]
    conv => rhs; rw [List.getD_eq_getElem?_getD, List.getElem?_take, if_pos (show t < a.length by omega), ← List.getD_eq_getElem?_getD]
    rw [seal_get _ _ _ _ _ (by omega), seal_get _ _ _ _ _ (by rw [List.length_append]; omega)]
    congr 1
    rw [List.getD_eq_getElem?_getD, List.getD_eq_getElem?_getD, List.getElem?_append_left (by omega)]
/-- Bytes. -/
theorem getD_bytes {l : List Nat} (h : ∀ x ∈ l, x < 256) (i : Nat) : l.getD i 0 < 256 := getD_lt h i
theorem LB_bytes' {f : Nat → Nat} (h : ∀ i, f i < 256) : ∀ x ∈ LB f, x < 256 := fun x hx => by
  obtain ⟨i, _, rfl⟩ := List.mem_map.1 hx
  exact h i
theorem ecL_bytes {k nonce : List Nat} (bk : ∀ x ∈ k, x < 256) (bn : ∀ x ∈ nonce, x < 256) {n : Nat} (hn : n < 65536) : ∀ x ∈ ecL k nonce n, x < 256 :=
  blockF_bytes (keysF_bytes boxL_bytes bk 40) (LB_bytes' fun i => counterF_lt (fun t => getD_lt bn t) hn i) 10
theorem strF_lt {k nonce : List Nat} (bk : ∀ x ∈ k, x < 256) (bn : ∀ x ∈ nonce, x < 256) {i : Nat} (hi : i < 1000000) : strF k nonce i < 256 := getD_lt (ecL_bytes bk bn (by omega)) _
theorem xorS_bytes {k nonce b : List Nat} (bk : ∀ x ∈ k, x < 256) (bn : ∀ x ∈ nonce, x < 256) (bb : ∀ x ∈ b, x < 256) (hb : b.length ≤ 1000000) : ∀ x ∈ xorS k nonce b, x < 256 := fun x hx => by
  obtain ⟨i, hi, rfl⟩ := List.mem_map.1 hx
  have := List.mem_range.1 hi
  exact xor_256 (getD_lt bb i) (strF_lt bk bn (by omega))
theorem hK_lt {k : List Nat} (bk : ∀ x ∈ k, x < 256) (i : Nat) : hK k i < 256 := getD_lt (blockF_bytes (keysF_bytes boxL_bytes bk 40) (LB_bytes' fun _ => by decide) 10) _
theorem bitsL_bytes (n : Nat) : ∀ x ∈ bitsL n, x < 256 := fun x hx => by
  obtain ⟨i, _, rfl⟩ := List.mem_map.1 hx
  exact Nat.mod_lt _ (by decide)
theorem bitsL_length (n : Nat) : (bitsL n).length = 8 := by simp [bitsL]
theorem lensL_length (n m : Nat) : (lensL n m).length = 16 := by unfold lensL; rw [List.length_append, bitsL_length, bitsL_length]
theorem lensL_bytes (n m : Nat) : ∀ x ∈ lensL n m, x < 256 := Bytes.append (bitsL_bytes n) (bitsL_bytes m)
theorem tagY_lt {k beside ct : List Nat} (bk : ∀ x ∈ k, x < 256) (i : Nat) : tagY k beside ct i < 256 :=
  hashF_lt (fun j => hashF_lt (fun j => hashF_lt (fun _ => by decide) (hK_lt bk) _ j) (hK_lt bk) _ j) (hK_lt bk) _ i
theorem tagL_bytes {k nonce beside ct : List Nat} (bk : ∀ x ∈ k, x < 256) (bn : ∀ x ∈ nonce, x < 256) : ∀ x ∈ tagL k nonce beside ct, x < 256 :=
  LB_bytes' fun i => xor_256 (tagY_lt bk i) (getD_lt (ecL_bytes bk bn (by omega)) i)
theorem sealL_bytes {k nonce beside b : List Nat} (bk : ∀ x ∈ k, x < 256) (bn : ∀ x ∈ nonce, x < 256) (bb : ∀ x ∈ b, x < 256) (hb : b.length ≤ 1000000) : ∀ x ∈ sealL k nonce beside b, x < 256 :=
  Bytes.append (xorS_bytes bk bn bb hb) (tagL_bytes bk bn)
/-- Chapter 9's example. -/
theorem seal_example : sealL (List.replicate 16 0) (List.replicate 12 0) [] [] = [0x58, 0xe2, 0xfc, 0xce, 0xfa, 0x7e, 0x30, 0x61, 0x36, 0x7f, 0x1d, 0x57, 0xa4, 0xe7, 0x45, 0x5a] := by decide +kernel
end Go.Proofs.Yteaddadmdjjfaaa
