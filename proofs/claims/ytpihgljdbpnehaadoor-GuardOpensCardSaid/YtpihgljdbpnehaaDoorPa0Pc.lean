/- The program's way to a block: each byte's Sub out of the powers of x + 1, the rounds' keys by sixteen bytes, a round's steps; that it comes to what the document's answer reckons. What the laws of aes take: sixteen bytes held against each other; Encrypt's contract as it will be asked of the program. Sixteen bytes in a Block. The program's double, triple, RotateLeft8, turned: their contracts. The program's subs: the table of Subs; its contract. -/
import Derived.Test.YtpihgljdbpnehaaDoorAb0Bl
import Derived.Test.YtpihgljdbpnehaaDoorSp0Bk
import Derived.Test.YtpihgljdbpnehaaDoorBj0Ga
import Derived.Test.YtpihgljdbpnehaaDoorLq0Nb
import Derived.Laws.StructEq
namespace Go.Proofs.YtpihgljdbpnehaaDoor
open Go
def dblN (b : Nat) : Nat := (b * 2 % 256) ^^^ (b / 128 * 27)
def tripN (b : Nat) : Nat := dblN b ^^^ b
theorem dblN_gm0 : ∀ x : Fin 256, dblN x.val = gm x.val 2 := by decide +kernel
theorem tripN_gm0 : ∀ x : Fin 256, tripN x.val = gm x.val 3 := by decide +kernel
theorem dblN_gm {x : Nat} (h : x < 256) : dblN x = gm x 2 := dblN_gm0 ⟨x, h⟩
theorem tripN_gm {x : Nat} (h : x < 256) : tripN x = gm x 3 := tripN_gm0 ⟨x, h⟩
theorem dblN_lt {x : Nat} (h : x < 256) : dblN x < 256 := by rw [dblN_gm h]; exact gm_lt 2 h
theorem tripN_lt {x : Nat} (h : x < 256) : tripN x < 256 := by rw [tripN_gm h]; exact gm_lt 3 h
def rotN (b n : Nat) : Nat := (b * 2 ^ n % 256) ||| (b / 2 ^ (8 - n))
theorem rotN_lt0 : ∀ x : Fin 256, ∀ n : Fin 5, rotN x.val n.val < 256 := by decide +kernel
theorem rotN_lt {x n : Nat} (h : x < 256) (hn : n < 5) : rotN x n < 256 := rotN_lt0 ⟨x, h⟩ ⟨n, hn⟩
def turnF (b : Nat) : Nat → Nat
 | 0 => b ^^^ 99
 | n + 1 => turnF b n ^^^ rotN b (n + 1)
def turnedN (b : Nat) : Nat := turnF b 4
theorem turnF_lt {b : Nat} (h : b < 256) : ∀ n, n ≤ 4 → turnF b n < 256
 | 0, _ => xor_256 h (by decide)
 | n + 1, hn => xor_256 (turnF_lt h n (by omega)) (rotN_lt h (by omega))
/-- The powers of x + 1. -/
def powF : Nat → Nat
 | 0 => 1
 | k + 1 => tripN (powF k)
def pwL : List Nat := [1, 3, 5, 15, 17, 51, 85, 255, 26, 46, 114, 150, 161, 248, 19, 53, 95, 225, 56, 72, 216, 115, 149, 164, 247, 2, 6, 10, 30, 34, 102, 170, 229, 52, 92, 228, 55, 89, 235, 38, 106, 190, 217, 112, 144, 171, 230, 49, 83, 245, 4, 12, 20, 60, 68, 204, 79, 209, 104, 184, 211, 110, 178, 205, 76, 212, 103, 169, 224, 59, 77, 215, 98, 166, 241, 8, 24, 40, 120, 136, 131, 158, 185, 208, 107, 189, 220, 127, 129, 152, 179, 206, 73, 219, 118, 154, 181, 196, 87, 249, 16, 48, 80, 240, 11, 29, 39, 105, 187, 214, 97, 163, 254, 25, 43, 125, 135, 146, 173, 236, 47, 113, 147, 174, 233, 32, 96, 160, 251, 22, 58, 78, 210, 109, 183, 194, 93, 231, 50, 86, 250, 21, 63, 65, 195, 94, 226, 61, 71, 201, 64, 192, 91, 237, 44, 116, 156, 191, 218, 117, 159, 186, 213, 100, 172, 239, 42, 126, 130, 157, 188, 223, 122, 142, 137, 128, 155, 182, 193, 88, 232, 35, 101, 175, 234, 37, 111, 177, 200, 67, 197, 84, 252, 31, 33, 99, 165, 244, 7, 9, 27, 45, 119, 153, 176, 203, 70, 202, 69, 207, 74, 222, 121, 139, 134, 145, 168, 227, 62, 66, 198, 81, 243, 14, 18, 54, 90, 238, 41, 123, 141, 140, 143, 138, 133, 148, 167, 242, 13, 23, 57, 75, 221, 124, 132, 151, 162, 253, 28, 36, 108, 180, 199, 82, 246]
theorem pwL_step : ∀ i : Fin 254, tripN (pwL.getD i.val 0) = pwL.getD (i.val + 1) 0 := by decide +kernel
theorem powF_is : ∀ k, k < 255 → powF k = pwL.getD k 0
 | 0, _ => rfl
 | k + 1, h => by
  show tripN (powF k) = _
  rw [powF_is k (by omega)]
  exact pwL_step ⟨k, by omega⟩
theorem powF_lt : ∀ k, powF k < 256
 | 0 => by decide
 | k + 1 => tripN_lt (powF_lt k)
/-- The table of Subs behind so many powers. -/
def tabF : Nat → List Nat
 | 0 => 99 :: List.replicate 255 0
 | i + 1 => (tabF i).set (powF i) (turnedN (powF ((255 - i) % 255)))
def tabG : Nat → List Nat
 | 0 => 99 :: List.replicate 255 0
 | i + 1 => (tabG i).set (pwL.getD i 0) (turnedN (pwL.getD ((255 - i) % 255) 0))
theorem tab_eq : ∀ i, i ≤ 255 → tabF i = tabG i
 | 0, _ => rfl
 | i + 1, h => by
  show (tabF i).set _ _ = (tabG i).set _ _
  rw [tab_eq i (by omega), powF_is i (by omega), powF_is _ (Nat.mod_lt _ (by decide))]
theorem tab_box0 : tabG 255 = boxT := by decide +kernel
theorem tab_box : tabF 255 = boxL := by rw [tab_eq 255 (Nat.le_refl _), tab_box0, box_is]
theorem tabF_length : ∀ i, (tabF i).length = 256
 | 0 => by
  show (99 :: List.replicate 255 0).length = 256
  rw [List.length_cons, List.length_replicate]
 | i + 1 => by show ((tabF i).set _ _).length = 256; rw [List.length_set, tabF_length i]
/-- The round's key behind another one, byte by byte. -/
def firstN (S k : List Nat) (p j : Nat) : Nat := if j = 0 then S.getD (k.getD 13 0) 0 ^^^ p else S.getD (k.getD (12 + (j + 1) % 4) 0) 0
def nx (S k : List Nat) (p : Nat) : Nat → Nat
 | 0 => k.getD 0 0 ^^^ firstN S k p 0
 | 1 => k.getD 1 0 ^^^ firstN S k p 1
 | 2 => k.getD 2 0 ^^^ firstN S k p 2
 | 3 => k.getD 3 0 ^^^ firstN S k p 3
 | j + 4 => k.getD (j + 4) 0 ^^^ nx S k p j
theorem nx_low (S k : List Nat) (p : Nat) {j : Nat} (h : j < 4) : nx S k p j = k.getD j 0 ^^^ firstN S k p j := by
 match j, h with
 | 0, _ => rfl
 | 1, _ => rfl
 | 2, _ => rfl
 | 3, _ => rfl
theorem nx_high (S k : List Nat) (p : Nat) {j : Nat} (h : 4 ≤ j) : nx S k p j = k.getD j 0 ^^^ nx S k p (j - 4) := by
 obtain ⟨i, rfl⟩ : ∃ i, j = i + 4 := ⟨j - 4, by omega⟩
 rw [Nat.add_sub_cancel]
 rfl
theorem firstN_lt {S k : List Nat} {p : Nat} (hS : ∀ x ∈ S, x < 256) (hp : p < 256) (j : Nat) : firstN S k p j < 256 := by
 unfold firstN
 split
 · exact xor_256 (getD_lt hS _) hp
 · exact getD_lt hS _
theorem nx_lt {S k : List Nat} {p : Nat} (hS : ∀ x ∈ S, x < 256) (hk : ∀ x ∈ k, x < 256) (hp : p < 256) (j : Nat) : nx S k p j < 256 := by
 induction j using Nat.strongRecOn with
 | _ j ih =>
  by_cases h : j < 4
  ·
   rw [nx_low _ _ _ h]
   exact xor_256 (getD_lt hk _) (firstN_lt hS hp _)
  ·
   rw [nx_high _ _ _ (by omega)]
   exact xor_256 (getD_lt hk _) (ih (j - 4) (by omega))
def nextL (S k : List Nat) (p : Nat) : List Nat := LB (nx S k p)
/-- The keys by sixteen bytes, and the power of x. -/
def ksF (S k : List Nat) : Nat → List Nat × Nat
 | 0 => (k, 1)
 | i + 1 => (nextL S (ksF S k i).1 (ksF S k i).2, dblN (ksF S k i).2)
theorem ksF_length {S k : List Nat} (hk : k.length = 16) : ∀ i, (ksF S k i).1.length = 16
 | 0 => hk
 | _ + 1 => LB_length _
theorem ksF_p (S k : List Nat) : ∀ i, (ksF S k i).2 < 256
 | 0 => by show 1 < 256; decide
 | i + 1 => dblN_lt (ksF_p S k i)
theorem LB_lt {f : Nat → Nat} (h : ∀ i, f i < 256) : ∀ x ∈ LB f, x < 256 := fun x hx => by
 obtain ⟨i, _, rfl⟩ := List.mem_map.1 hx
 exact h i
theorem ksF_lt {S k : List Nat} (hS : ∀ x ∈ S, x < 256) (hk : ∀ x ∈ k, x < 256) : ∀ i, ∀ x ∈ (ksF S k i).1, x < 256
 | 0 => hk
 | i + 1 => LB_lt fun j => nx_lt hS (ksF_lt hS hk i) (ksF_p S k i) j
theorem keysF_more (B k : List Nat) (hk : k.length = 16) (m t : Nat) (ht : t < 16 + 4 * m) : ∀ d, (keysF B k (m + d)).1.getD t 0 = (keysF B k m).1.getD t 0
 | 0 => rfl
 | d + 1 => by
  rw [← keysF_more B k hk m t ht d]
  show ((keysF B k (m + d)).1 ++ _).getD t 0 = _
  have hl := keysF_length B k hk (m + d)
  rw [List.getD_eq_getElem?_getD, List.getElem?_append_left (by omega), ← List.getD_eq_getElem?_getD]
theorem keysF_at (B k : List Nat) (hk : k.length = 16) {m t : Nat} (ht : t < 16 + 4 * m) (hm : m ≤ 40) : (keysF B k m).1.getD t 0 = (keysL B k).getD t 0 := by
 have h := keysF_more B k hk m t ht (40 - m)
 rw [show m + (40 - m) = 40 by omega] at h
 exact h.symm
theorem keysF_new (B k : List Nat) (hk : k.length = 16) {m j : Nat} (hm : m < 40) (hj : j < 4) : (keysL B k).getD (16 + 4 * m + j) 0 = (keysL B k).getD (4 * m + j) 0 ^^^ kw B (keysF B k m).1 (keysF B k m).2 (16 + 4 * m) j := by
 rw [← keysF_at B k hk (m := m + 1) (t := 16 + 4 * m + j) (by omega) (by omega), ← keysF_at B k hk (m := m) (t := 4 * m + j) (by omega) (by omega)]
 show ((keysF B k m).1 ++ (List.range 4).map _).getD _ 0 = _
 have hl := keysF_length B k hk m
 rw [List.getD_eq_getElem?_getD, List.getElem?_append_right (by omega), hl, show 16 + 4 * m + j - (16 + 4 * m) = j by omega, List.getElem?_map, List.getElem?_range hj]
 rfl
theorem kc_four (B k : List Nat) : ∀ i, (keysF B k (4 * i)).2 = (ksF B k i).2
 | 0 => rfl
 | i + 1 => by
  have h : ∀ m, (keysF B k (m + 1)).2 = kc (keysF B k m).2 (16 + 4 * m) := fun _ => rfl
  rw [show 4 * (i + 1) = 4 * i + 1 + 1 + 1 + 1 by omega, h, h, h, h, kc_four B k i]
  have e1 : ∀ c, kc c (16 + 4 * (4 * i)) = gm c 2 := fun c => if_pos (by omega)
  have e2 : ∀ c, kc c (16 + 4 * (4 * i + 1)) = c := fun c => if_neg (by omega)
  have e3 : ∀ c, kc c (16 + 4 * (4 * i + 1 + 1)) = c := fun c => if_neg (by omega)
  have e4 : ∀ c, kc c (16 + 4 * (4 * i + 1 + 1 + 1)) = c := fun c => if_neg (by omega)
  rw [e1, e2, e3, e4, ← dblN_gm (ksF_p B k i)]
  rfl
/-- The keys by sixteen bytes are the keys by four. -/
theorem ks_at (B k : List Nat) (hk : k.length = 16) (i : Nat) (hi : i ≤ 10) (j : Nat) (hj : j < 16) : (keysL B k).getD (16 * i + j) 0 = (ksF B k i).1.getD j 0 := by
 induction i generalizing j with
 | zero =>
  rw [← keysF_at B k hk (m := 0) (t := 16 * 0 + j) (by omega) (by omega), Nat.mul_zero, Nat.zero_add]
  rfl
 | succ i ih =>
  have ih' := fun j hj => ih (by omega) j hj
  show _ = (nextL B (ksF B k i).1 (ksF B k i).2).getD j 0
  unfold nextL
  rw [LB_get _ _ hj]
  induction j using Nat.strongRecOn with
  | _ j jh =>
   by_cases h4 : j < 4
   ·
    rw [nx_low _ _ _ h4, show 16 * (i + 1) + j = 16 + 4 * (4 * i) + j by omega, keysF_new B k hk (by omega) h4, show 4 * (4 * i) + j = 16 * i + j by omega, ih' j hj]
    congr 1
    unfold kw firstN
    rw [if_pos (show (16 + 4 * (4 * i)) % 16 = 0 by omega), kc_four]
    by_cases h0 : j = 0
    · rw [if_pos h0, if_pos h0, keysF_at B k hk (by omega) (by omega), show 16 + 4 * (4 * i) - 3 = 16 * i + 13 by omega, ih' 13 (by omega)]
    · rw [if_neg h0, if_neg h0, keysF_at B k hk (by omega) (by omega), show 16 + 4 * (4 * i) - 4 + (j + 1) % 4 = 16 * i + (12 + (j + 1) % 4) by omega, ih' _ (by omega)]
   ·
    obtain ⟨m, q, hm, hq, e⟩ : ∃ m q, m = 4 * i + j / 4 ∧ q < 4 ∧ 4 * m + q = 16 * i + j := ⟨_, j % 4, rfl, by omega, by omega⟩
    rw [nx_high _ _ _ (by omega), show 16 * (i + 1) + j = 16 + 4 * m + q by omega, keysF_new B k hk (by omega) hq, e, ih' j hj]
    congr 1
    unfold kw
    rw [if_neg (show ¬ (16 + 4 * m) % 16 = 0 by omega), keysF_at B k hk (by omega) (by omega), show 16 + 4 * m - 4 + q = 16 * (i + 1) + (j - 4) by omega]
    exact jh (j - 4) (by omega) (by omega)
/-- Two blocks joined; a block moved; a block mixed. -/
def xorB (a b : List Nat) : List Nat := LB fun i => a.getD i 0 ^^^ b.getD i 0
def movedL (S b : List Nat) : List Nat := LB (shiftB S b)
def mixP (f : Nat → Nat) (i : Nat) : Nat :=
 if i % 4 = 0 then dblN (f i) ^^^ tripN (f (i + 1)) ^^^ f (i + 2) ^^^ f (i + 3)
 else if i % 4 = 1 then f (i - 1) ^^^ dblN (f i) ^^^ tripN (f (i + 1)) ^^^ f (i + 2)
 else if i % 4 = 2 then f (i - 2) ^^^ f (i - 1) ^^^ dblN (f i) ^^^ tripN (f (i + 1))
 else tripN (f (i - 3)) ^^^ f (i - 2) ^^^ f (i - 1) ^^^ dblN (f i)
def mixedL (b : List Nat) : List Nat := LB (mixP fun i => b.getD i 0)
theorem mixP_is (f : Nat → Nat) (hf : ∀ i, f i < 256) (i : Nat) : mixP f i = mixB f i := by
 unfold mixP mixB
 by_cases h0 : i % 4 = 0
 · rw [if_pos h0, dblN_gm (hf _), tripN_gm (hf _), show i - i % 4 + (i + 1) % 4 = i + 1 by omega, show i - i % 4 + (i + 2) % 4 = i + 2 by omega, show i - i % 4 + (i + 3) % 4 = i + 3 by omega]
 ·
  rw [if_neg h0]
  by_cases h1 : i % 4 = 1
  ·
   rw [if_pos h1, dblN_gm (hf _), tripN_gm (hf _), show i - i % 4 + (i + 1) % 4 = i + 1 by omega, show i - i % 4 + (i + 2) % 4 = i + 2 by omega, show i - i % 4 + (i + 3) % 4 = i - 1 by omega]
   ac_rfl
  ·
   rw [if_neg h1]
   by_cases h2 : i % 4 = 2
   ·
    rw [if_pos h2, dblN_gm (hf _), tripN_gm (hf _), show i - i % 4 + (i + 1) % 4 = i + 1 by omega, show i - i % 4 + (i + 2) % 4 = i - 2 by omega, show i - i % 4 + (i + 3) % 4 = i - 1 by omega]
    ac_rfl
   ·
    rw [if_neg h2, dblN_gm (hf _), tripN_gm (hf _), show i - i % 4 + (i + 1) % 4 = i - 3 by omega, show i - i % 4 + (i + 2) % 4 = i - 2 by omega, show i - i % 4 + (i + 3) % 4 = i - 1 by omega]
    ac_rfl
theorem xorB_lt {a b : List Nat} (ha : ∀ x ∈ a, x < 256) (hb : ∀ x ∈ b, x < 256) : ∀ x ∈ xorB a b, x < 256 := LB_lt fun i => xor_256 (getD_lt ha i) (getD_lt hb i)
theorem movedL_lt {S b : List Nat} (hS : ∀ x ∈ S, x < 256) : ∀ x ∈ movedL S b, x < 256 := LB_lt fun _ => getD_lt hS _
theorem mixP_lt {f : Nat → Nat} (hf : ∀ i, f i < 256) (i : Nat) : mixP f i < 256 := by
 unfold mixP
 split
 · exact xor_256 (xor_256 (xor_256 (dblN_lt (hf _)) (tripN_lt (hf _))) (hf _)) (hf _)
 ·
  split
  · exact xor_256 (xor_256 (xor_256 (hf _) (dblN_lt (hf _))) (tripN_lt (hf _))) (hf _)
  ·
   split
   · exact xor_256 (xor_256 (xor_256 (hf _) (hf _)) (dblN_lt (hf _))) (tripN_lt (hf _))
   · exact xor_256 (xor_256 (xor_256 (tripN_lt (hf _)) (hf _)) (hf _)) (dblN_lt (hf _))
theorem mixedL_lt {b : List Nat} (hb : ∀ x ∈ b, x < 256) : ∀ x ∈ mixedL b, x < 256 := LB_lt fun i => mixP_lt (fun _ => getD_lt hb _) i
/-- A block behind so many rounds. -/
def stF (S k b : List Nat) : Nat → List Nat
 | 0 => xorB b k
 | r + 1 => xorB (mixedL (movedL S (stF S k b r))) (ksF S k (r + 1)).1
theorem stF_length (S k b : List Nat) : ∀ r, (stF S k b r).length = 16
 | 0 => LB_length _
 | _ + 1 => LB_length _
theorem stF_lt {S k b : List Nat} (hS : ∀ x ∈ S, x < 256) (hk : ∀ x ∈ k, x < 256) (hb : ∀ x ∈ b, x < 256) : ∀ r, ∀ x ∈ stF S k b r, x < 256
 | 0 => xorB_lt hb hk
 | r + 1 => xorB_lt (mixedL_lt (movedL_lt hS)) (ksF_lt hS hk (r + 1))
theorem blockF_z (B ks b : List Nat) : blockF B ks b 0 = LB fun i => b.getD i 0 ^^^ ks.getD i 0 := rfl
theorem blockF_s (B ks b : List Nat) (r : Nat) : blockF B ks b (r + 1) = LB fun i => (if r + 1 < 10 then mixB (shiftB B (blockF B ks b r)) i else shiftB B (blockF B ks b r) i) ^^^ ks.getD (16 * (r + 1) + i) 0 := rfl
theorem stF_s (S k b : List Nat) (r : Nat) : stF S k b (r + 1) = xorB (mixedL (movedL S (stF S k b r))) (ksF S k (r + 1)).1 := rfl
theorem stF_is {S k b : List Nat} (hS : ∀ x ∈ S, x < 256) (hk : k.length = 16) : ∀ r, r < 10 → stF S k b r = blockF S (keysL S k) b r
 | 0, _ => by
  have h := fun i hi => ks_at S k hk 0 (by omega) i hi
  generalize keysL S k = K at *
  rw [blockF_z]
  show xorB b k = _
  unfold xorB
  refine LB_congr fun i hi => ?_
  have := h i hi
  rw [Nat.mul_zero, Nat.zero_add] at this
  rw [this]
  rfl
 | r + 1, hr => by
  have h := fun i hi => ks_at S k hk (r + 1) (by omega) i hi
  have hb := stF_is (b := b) hS hk r (by omega)
  generalize keysL S k = K at *
  rw [blockF_s, stF_s, hb]
  generalize blockF S K b r = b'
  refine LB_congr fun i hi => ?_
  rw [if_pos hr, h i hi]
  congr 1
  unfold mixedL
  rw [LB_get _ _ hi, mixP_is _ (fun _ => getD_lt (movedL_lt hS) _)]
  have e : ∀ j, j < 16 → (movedL S b').getD j 0 = shiftB S b' j := fun j hj => LB_get _ _ hj
  unfold mixB
  dsimp only
  rw [e i hi, e _ (by omega), e _ (by omega), e _ (by omega)]
theorem encL_is (B k b : List Nat) : encL B k b = blockF B (keysL B k) b (9 + 1) := rfl
theorem enc_is {S k b : List Nat} (hS : ∀ x ∈ S, x < 256) (hk : k.length = 16) : xorB (movedL S (stF S k b 9)) (ksF S k 10).1 = encL S k b := by
 have h := fun i hi => ks_at S k hk 10 (by omega) i hi
 have hb := stF_is (b := b) hS hk 9 (by omega)
 rw [encL_is]
 generalize keysL S k = K at *
 rw [blockF_s, hb]
 generalize blockF S K b 9 = b'
 refine LB_congr fun i hi => ?_
 rw [if_neg (by decide), h i hi]
 congr 1
 exact LB_get _ _ hi
end Go.Proofs.YtpihgljdbpnehaaDoor
namespace Go.Proofs.YtpihgljdbpnehaaDoor
open Go.RowKit
theorem info_n (l : List Nat) (h : l.length = 16) : (Tryd.prog.info? 26).map (·.size) = some (Iv .u8 (NI l)).size := by
 rw [Iv_size, NI_length, h]
 kernel_rfl
theorem info_b (l : List Nat) (h : l.length = 16) : (Tryd.prog.info? 27).map (·.size) = some (Iv .u8 (NI l)).size := by
 rw [Iv_size, NI_length, h]
 kernel_rfl
theorem eq16b (l1 l2 : List Int) (h1 : l1.length = 16) (h2 : l2.length = 16) (w : World) :
  (Op.equalIn 10000 27 (.agg (Iv .u8 l1)) (.agg (Iv .u8 l2))).run Tryd.prog w = .ok (decide (l1 = l2)) w := by
 obtain ⟨i, hi⟩ : ∃ i, Tryd.prog.info? 5 = some i := info_of_underlying Tryd.underlying5
 exact run_eq_ints w 9998 (n := 16) (e := 5) Tryd.underlying27 hi Tryd.underlying5 (by kernel_rfl) (by kernel_rfl) l1 l2 h1 h2
theorem eqg_16b : Tryd.prog.eqGuardType Tryd.prog.depth 27 = false := by kernel_rfl
theorem dec_NI (a b : List Nat) : decide (NI a = NI b) = decide (a = b) := decide_eq_decide.2 ⟨NI_inj, fun h => by rw [h]⟩
theorem encL_length (k b : List Nat) : (encL boxL k b).length = 16 := blockF_length _ _ _ _
theorem encL_bytes {k b : List Nat} (bk : ∀ x ∈ k, x < 256) (bb : ∀ x ∈ b, x < 256) : ∀ x ∈ encL boxL k b, x < 256 := blockF_bytes (keysF_bytes boxL_bytes bk 40) bb 10
end Go.Proofs.YtpihgljdbpnehaaDoor
namespace Go.Proofs.YtpihgljdbpnehaaDoor
open Go.RowKit
/-- Sixteen bytes in a Block. -/
def BB (w : World) (g : Nat) (f : Nat → Nat) : Prop := Blk w g 27 (Iv .u8 (NI (LB f)))
theorem BB.cell {w : World} {g : Nat} {f : Nat → Nat} (h : BB w g f) (i : Nat) (hi : i < 16) : w.cell? ⟨g, i, none⟩ = some (.int .u8 ((f i : Nat) : Int)) := by
 rw [Blk.cell h, NI_get _ _ (by rw [LB_length]; exact hi)]
 simp [LB]
theorem NI_set (l : List Nat) (k x : Nat) : (NI l).set k ((x : Nat) : Int) = NI (l.set k x) := by
 unfold NI
 rw [List.map_set]
theorem LB_set (f f' : Nat → Nat) (k : Nat) (ho : ∀ i, i ≠ k → f' i = f i) : (LB f).set k (f' k) = LB f' := by
 apply List.ext_getElem (by simp [LB])
 intro i h1 h2
 simp only [LB, List.getElem_set, List.getElem_map, List.getElem_range]
 by_cases hj : k = i
 · rw [if_pos hj, hj]
 · rw [if_neg hj, ho i (fun e => hj e.symm)]
theorem BB.set {w : World} {g : Nat} {f : Nat → Nat} (h : BB w g f) (k : Nat) (f' : Nat → Nat) (ho : ∀ i, i ≠ k → f' i = f i) : BB (w.setCell ⟨g, k, none⟩ (.int .u8 ((f' k : Nat) : Int))) g f' := by
 have hs := Blk.set h k (.int .u8 ((f' k : Nat) : Int))
 rw [Iv_set, NI_set, LB_set f f' k ho] at hs
 exact hs
theorem BB.congr {w : World} {g : Nat} {f f' : Nat → Nat} (h : BB w g f) (e : ∀ i, i < 16 → f i = f' i) : BB w g f' := by
 unfold BB at h ⊢
 rwa [LB_congr e] at h
theorem info_bl (f : Nat → Nat) : (Tryd.prog.info? 27).map (·.size) = some (Iv .u8 (NI (LB f))).size := info_b _ (LB_length f)
theorem LB_bytes {f : Nat → Nat} (h : ∀ i, i < 16 → f i < 256) : ∀ x ∈ LB f, x < 256 := fun x hx => by
 obtain ⟨i, hi, rfl⟩ := List.mem_map.1 hx
 exact h i (List.mem_range.1 hi)
end Go.Proofs.YtpihgljdbpnehaaDoor
namespace Go.Proofs.YtpihgljdbpnehaaDoor
open Go.RowKit
theorem dbl_int0 : ∀ x : Fin 256, bits .xor .u8 ((x.val : Int) * 2 % 256) ((x.val : Int) / 128 * 27) = ((dblN x.val : Nat) : Int) := by decide +kernel
set_option maxHeartbeats 2000000 in
set_option maxRecDepth 100000 in
theorem double_any (b : Nat) (hb : b < 256) (w : World) : Calls Tryd.prog 65 #[.int .u8 (b : Int)] w fun e w' => e = .returned (.int .u8 ((dblN b : Nat) : Int)) ∧ Below w.heap.size w w' := by
 have h := dbl_int0 ⟨b, hb⟩
 have i0 : (0 : Int) ≤ (b : Int) := by omega
 simp only at h
 go_enter Tryd.func65, Tryd.ntmps65
 go_wp2
 go_ret
 exact ⟨rfl, Below.refl _ _⟩
theorem trip_int0 : ∀ x : Fin 256, bits .xor .u8 ((dblN x.val : Nat) : Int) (x.val : Int) = ((tripN x.val : Nat) : Int) := by decide +kernel
set_option maxHeartbeats 2000000 in
set_option maxRecDepth 100000 in
theorem triple_any (b : Nat) (hb : b < 256) (w : World) : Calls Tryd.prog 78 #[.int .u8 (b : Int)] w fun e w' => e = .returned (.int .u8 ((tripN b : Nat) : Int)) ∧ Below w.heap.size w w' := by
 have h := trip_int0 ⟨b, hb⟩
 have i0 : (0 : Int) ≤ (b : Int) := by omega
 simp only at h
 have C := Lib.hid (double_any b hb)
 generalize dblN b = D at *
 go_enter Tryd.func78, Tryd.ntmps78
 go_wp2_with fail
 refine (C.out _).mono ?_
 rintro _ w1 ⟨rfl, b1⟩
 go_wp2
 go_ret
 exact ⟨rfl, b1⟩
theorem rot_int0 : ∀ x : Fin 256, ∀ n : Fin 5, bits .or .u8 ((x.val : Int) * 2 ^ n.val % 256) ((x.val : Int) / 2 ^ (8 - n.val)) = ((rotN x.val n.val : Nat) : Int) := by decide +kernel
theorem rot_and0 : ∀ n : Fin 5, bits .and .u64 (n.val : Int) 7 = (n.val : Int) := by decide +kernel
set_option maxHeartbeats 2000000 in
set_option maxRecDepth 100000 in
theorem rotate_any (b n : Nat) (hb : b < 256) (hn : n < 5) (w : World) : Calls Tryd.prog 91 #[.int .u8 (b : Int), .int .i64 (n : Int)] w fun e w' => e = .returned (.int .u8 ((rotN b n : Nat) : Int)) ∧ Below w.heap.size w w' := by
 have h := rot_int0 ⟨b, hb⟩ ⟨n, hn⟩
 have h2 := rot_and0 ⟨n, hn⟩
 have i0 : (0 : Int) ≤ (b : Int) := by omega
 have i1 : (0 : Int) ≤ (n : Int) := by omega
 have i2 : (n : Int) % 18446744073709551616 = (n : Int) := by omega
 simp only at h h2
 go_enter Tryd.func91, Tryd.ntmps91
 go_wp2
 go_ret
 exact ⟨rfl, Below.refl _ _⟩
theorem u8_xor (a b : Nat) (ha : a < 256) (hb : b < 256) : bits .xor .u8 (a : Int) (b : Int) = ((a ^^^ b : Nat) : Int) := u8_xor_nat a b ha hb
set_option maxHeartbeats 2000000 in
set_option maxRecDepth 100000 in
theorem turned_any (b : Nat) (hb : b < 256) (w : World) : Calls Tryd.prog 79 #[.int .u8 (b : Int)] w fun e w' => e = .returned (.int .u8 ((turnedN b : Nat) : Int)) ∧ Below w.heap.size w w' := by
 have i0 : (0 : Int) ≤ (b : Int) := by omega
 have h0 := u8_xor b 99 hb (by decide)
 rw [show ((99 : Nat) : Int) = 99 from rfl] at h0
 have L := fun n hn => turnF_lt hb n hn
 have R := fun n hn => rotN_lt (n := n) hb hn
 have C := fun n hn W => rotate_any b n hb hn W
 unfold turnedN
 have e0 : b ^^^ 99 = turnF b 0 := rfl
 have es : ∀ n, turnF b (n + 1) = turnF b n ^^^ rotN b (n + 1) := fun _ => rfl
 rw [e0] at h0
 generalize turnF b = F at *
 generalize rotN b = G at *
 go_enter Tryd.func79, Tryd.ntmps79
 go_wp2
 go_loopw [3, 4] (fun o i wr => ∃ k : Nat, k ≤ 4 ∧ i = .int .i64 ((k : Int) + 1) ∧ o = .int .u8 ((F k : Nat) : Int) ∧ Below w.heap.size w wr) (fun _ i _ => (5 - intOf i).toNat)
 case atStart => exact ⟨0, by omega, rfl, rfl, Below.refl _ _⟩
 case round =>
  clear h0 e0
  obtain ⟨k, hk, rfl, rfl, hB⟩ := hrel
  by_cases h4 : k = 4
  ·
   subst h4
   have i1 : ¬ ((4 : Nat) : Int) + 1 ≤ 4 := by omega
   go_wp2
   go_ret
   exact ⟨rfl, hB⟩
  ·
   have i1 : (k : Int) + 1 ≤ 4 := by omega
   have C1 := Lib.hid (C (k + 1) (by omega))
   have X := u8_xor (F k) (G (k + 1)) (L k hk) (R (k + 1) (by omega))
   have E := Lib.hid (es k)
   rw [show (((k + 1 : Nat)) : Int) = (k : Int) + 1 by omega] at C1
   clear C L R es
   generalize G (k + 1) = g at *
   go_wp2_with fail
   refine (C1.out _).mono ?_
   rintro _ w1 ⟨rfl, b1⟩
   have hB1 := hB.trans (b1.mono hB.size)
   go_wp2
   exact ⟨⟨k + 1, by omega, by congr 1, by rw [E.out], hB1⟩, by simp only [intOf]; omega⟩
end Go.Proofs.YtpihgljdbpnehaaDoor
namespace Go.Proofs.YtpihgljdbpnehaaDoor
open Go.RowKit
/-- The bytes of a row, and where one is put. -/
theorem ni_setIf (l : List Nat) (i x : Nat) : (Iv .u8 (NI l)).setIfInBounds i (.int .u8 ((x : Nat) : Int)) = Iv .u8 (NI (l.set i x)) := by
 rw [Iv_set, NI_set]
theorem info_255 (l : List Nat) (h : l.length = 255) : (Tryd.prog.info? 131).map (·.size) = some (Iv .u8 (NI l)).size := by
 rw [Iv_size, NI_length, h]
 kernel_rfl
theorem info_256 (l : List Nat) (h : l.length = 256) : (Tryd.prog.info? 110).map (·.size) = some (Iv .u8 (NI l)).size := by
 rw [Iv_size, NI_length, h]
 kernel_rfl
/-- The powers, as far as they are put. -/
def pwF : Nat → List Nat
 | 0 => List.replicate 255 0
 | k + 1 => (pwF k).set k (powF k)
theorem pwF_length : ∀ k, (pwF k).length = 255
 | 0 => List.length_replicate
 | k + 1 => by show ((pwF k).set k _).length = 255; rw [List.length_set, pwF_length k]
theorem pwF_get : ∀ k, k ≤ 255 → ∀ i, i < k → (pwF k).getD i 0 = powF i
 | 0, _, _, h => absurd h (by omega)
 | k + 1, hk, i, hi => by
  show ((pwF k).set k (powF k)).getD i 0 = _
  have hl := pwF_length k
  rw [List.getD_eq_getElem?_getD, List.getElem?_set]
  by_cases h : k = i
  ·
   subst h
   rw [if_pos rfl, if_pos (by omega)]
   rfl
  ·
   rw [if_neg h, ← List.getD_eq_getElem?_getD]
   exact pwF_get k (by omega) i (by omega)
theorem index255 (l : List Nat) (hl : l.length = 255) (k : Nat) (hk : k < 255) (w : World) : (Instr.index 131 (.agg (Iv .u8 (NI l))) (.int .i64 (k : Int))).run Tryd.prog w = .ok (.int .u8 ((l.getD k 0 : Nat) : Int)) w := by
 obtain ⟨i, hi, hs, hy, hz⟩ := info_u8
 have hx : (Iv .u8 (NI l))[k]? = some (.int .u8 ((l.getD k 0 : Nat) : Int)) := by
  rw [NI_get _ _ (by omega)]
  simp [List.getD_eq_getElem?_getD, show k < l.length by omega]
 have i1 : (k : Int) < 255 := by omega
 have i0 : (0 : Int) ≤ (k : Int) := by omega
 unfold Instr.index
 simp only [asIntOf, Sem.run_bind, Sem.run_pure, Result.andThen_ok, run_underlying Tryd.underlying131]
 go_simp
def z256 : List Nat := List.replicate 256 0
def z255 : List Nat := List.replicate 255 0
theorem zero256 (w : World) : (zeroValue 110).run Tryd.prog w = .ok (.agg (Iv .u8 (NI z256))) w := by kernel_rfl
theorem build99 (w : World) : (Instr.build 110 #[(0, .int .u8 99)]).run Tryd.prog w = .ok (.agg (Iv .u8 (NI (tabF 0)))) w := by kernel_rfl
set_option maxHeartbeats 4000000 in
set_option maxRecDepth 100000 in
theorem subs_any (w : World) : Calls Tryd.prog 63 #[] w fun e w' => e = .returned (.agg (Iv .u8 (NI boxL))) ∧ Below w.heap.size w w' := by
 go_enter Tryd.func63, Tryd.ntmps63
 go_upto_region 4 with fail
 rw [show Tryd.zeroCells110 = Iv .u8 (NI z256) by kernel_rfl, show Tryd.zeroCells131 = Iv .u8 (NI z255) by kernel_rfl]
 generalize hW : World.alloc (World.alloc w _) _ = W
 have B0 : Below w.heap.size w W := hW ▸ ((Below.refl w.heap.size w).alloc (Nat.le_refl _) _).alloc (by simp) _
 have R0 : Blk W w.heap.size 110 (Iv .u8 (NI z256)) := hW ▸ (Blk.new w _ _).alloc _
 have P0 : Blk W (w.heap.size + 1) 131 (Iv .u8 (NI (pwF 0))) := hW ▸ Blk.new' (by simp) _ _
 clear hW
 go_loopw [2, 7] (fun p i wr => ∃ k : Nat, k ≤ 255 ∧ i = .int .i64 (k : Int) ∧ p = .int .u8 ((powF k : Nat) : Int) ∧ Blk wr w.heap.size 110 (Iv .u8 (NI z256)) ∧ Blk wr (w.heap.size + 1) 131 (Iv .u8 (NI (pwF k))) ∧ Below w.heap.size w wr) (fun _ i _ => (255 - intOf i).toNat)
 case atStart => exact ⟨0, by omega, rfl, rfl, R0, P0, B0⟩
 case round =>
  clear R0 P0 B0
  obtain ⟨k, hk, rfl, rfl, R, P, hB⟩ := hrel
  by_cases h255 : k = 255
  ·
   subst h255
   go_upto_region 9 with fail
   rename_i aK
   have PG := fun i hi => pwF_get 255 (Nat.le_refl _) i hi
   have PL := pwF_length 255
   generalize pwF 255 = PW at *
   generalize powF 255 = X0 at *
   refine wp_region_seq ?_
   refine wpSeq_yield (S := fun w' => w' = wr) (v := .agg (Iv .u8 (NI (tabF 0)))) (Or.inl ⟨rfl, fun w' hw' => ?_⟩) rfl ?_
   · simp only [execOp, List.map_toArray, List.map_cons, List.map_nil, Act.eval, build99, Sem.run_bind, Result.andThen_ok, Sem.run_pure]
   refine wpSeq_allocQ 110 (Iv .u8 (NI z256)) rfl (fun W => by go_simp; first | (rw [zero256]; rfl) | rw [show Tryd.zeroCells110 = Iv .u8 (NI z256) by kernel_rfl]) ?_
   intro gt W T1 b1 m1
   refine wpSeq_store_row rfl 110 _ _ rfl gt (Iv .u8 (NI (tabF 0))) rfl rfl 110 _ T1 (info_256 _ (tabF_length 0)) (by rw [Iv_size, Iv_size, NI_length, NI_length]; rfl) (Iv_one _ _) ?_
   refine wpSeq_nil ?_
   have T2 := T1.row (Iv .u8 (NI (tabF 0)))
   have lt1 := T1.lt
   have P2 := (Blk.below' P b1).rowFar (k := gt) (by have := P.lt; omega) (Iv .u8 (NI (tabF 0)))
   have R2 := (Blk.below' R b1).rowFar (k := gt) (by have := R.lt; omega) (Iv .u8 (NI (tabF 0)))
   have B2 := below_setRow (hB.trans (b1.mono hB.size)) (g := gt) (Nat.le_trans hB.size m1) (Iv .u8 (NI (tabF 0)))
   have gne : w.heap.size + 1 ≠ gt := by have := P.lt; omega
   have g0 : w.heap.size ≠ gt := by have := P.lt; omega
   have gge : w.heap.size ≤ gt := Nat.le_trans hB.size m1
   clear P R hB b1 T1 m1
   refine aK _ _ ?_
   clear aK
   generalize World.setRow W gt _ = V at *
   go_upto_region 11 with (refine wpList_load_row rfl 131 _ rfl (w.heap.size + 1) rfl 131 _ (0, 0) _ P2 Tryd.underlying131 rfl (info_255 _ PL) ?_)
   go_loopw [18] (fun i wr => ∃ k : Nat, k ≤ 255 ∧ i = .int .i64 (k : Int) ∧ Blk wr w.heap.size 110 (Iv .u8 (NI z256)) ∧ Blk wr (w.heap.size + 1) 131 (Iv .u8 (NI PW)) ∧ Blk wr gt 110 (Iv .u8 (NI (tabF k))) ∧ Below w.heap.size w wr) (fun i _ => (255 - intOf i).toNat)
   case atStart => exact ⟨0, by omega, rfl, R2, P2, T2, B2⟩
   case round =>
    clear R2 P2 T2 B2
    obtain ⟨k, hk, rfl, R, P, T, hB⟩ := hrel
    by_cases h255 : k = 255
    ·
     subst h255
     rw [tab_box] at T
     go_upto_region 15 with fail
     go_wp2_with (first | (refine wpList_load_row rfl 110 _ rfl gt rfl 110 _ (0, 0) _ T Tryd.underlying110 rfl (info_256 _ boxL_length) ?_) | (refine wpList_store_row rfl 110 _ _ rfl w.heap.size (Iv .u8 (NI boxL)) rfl rfl 110 _ R (info_256 _ boxL_length) (by rw [Iv_size, Iv_size, NI_length, NI_length, boxL_length]; rfl) (Iv_one _ _) ?_))
     have RR := Blk.row R (Iv .u8 (NI boxL))
     have BBd := below_setRow hB (g := w.heap.size) (Nat.le_refl _) (Iv .u8 (NI boxL))
     exact bodyPost_ret (results_cell_row rfl _ _ _ 110 _ (0, 0) _ rfl RR Tryd.underlying110 rfl (info_256 _ boxL_length)) rfl ⟨rfl, BBd⟩
    ·
     have i1 : (k : Int) < 255 := by omega
     have i0 : (0 : Int) ≤ (k : Int) := by omega
     have hx := Lib.hid (fun W => index255 PW PL k (by omega) W)
     rw [PG k (by omega)] at hx
     obtain ⟨m, hm⟩ : ∃ m, m = (255 - k) % 255 := ⟨_, rfl⟩
     have m1 : m < 255 := by omega
     have im : ((255 : Int) - (k : Int)).tmod 255 = (m : Int) := by rw [Int.tmod_eq_emod_of_nonneg (by omega)]; omega
     have iw : wrap64 ((255 : Int) - (k : Int)) = (255 : Int) - (k : Int) := by unfold wrap64; omega
     have m2 : (m : Int) < 255 := by omega
     have m0 : (0 : Int) ≤ (m : Int) := by omega
     have c1 : wr.cell? ⟨w.heap.size + 1, m, none⟩ = some (.int .u8 ((powF m : Nat) : Int)) := by
      rw [Blk.cell P, NI_get _ _ (by omega), ← PG m (by omega)]
      simp [List.getD_eq_getElem?_getD, show m < PW.length by omega]
     have C := Lib.hid (turned_any (powF m) (powF_lt m))
     have es := Lib.hid (show tabF (k + 1) = (tabF k).set (powF k) (turnedN (powF m)) by rw [hm]; rfl)
     have lk := powF_lt k
     have hl := tabF_length k
     have lp : (0 : Int) ≤ ((powF k : Nat) : Int) := by omega
     have lq : ((powF k : Nat) : Int) < 256 := by omega
     generalize powF k = X at *
     generalize powF m = Y at *
     generalize turnedN Y = Z at *
     generalize tabF k = TT at *
     clear hm PG
     go_wp2_with fail
     rw [hx.out]
     simp only [Result.andThen_ok]
     go_wp2_with fail
     refine (C.out _).mono ?_
     rintro _ w1 ⟨rfl, b1⟩
     replace R := Blk.below' R b1
     replace P := Blk.below' P b1
     replace T := Blk.below' T b1
     replace hB := hB.trans (b1.mono hB.size)
     have c2 : w1.cell? ⟨gt, X, none⟩ = some (.int .u8 ((TT.getD X 0 : Nat) : Int)) := by
      rw [Blk.cell T, NI_get _ _ (by omega)]
      simp [List.getD_eq_getElem?_getD, show X < TT.length by omega]
     have f2 := Blk.frozen T X
     have T2 := Blk.set T X (.int .u8 ((Z : Nat) : Int))
     rw [ni_setIf, ← es.out] at T2
     have P2 : Blk (w1.setCell ⟨gt, X, none⟩ (.int .u8 ((Z : Nat) : Int))) (w.heap.size + 1) 131 _ := Blk.far (p := ⟨gt, X, none⟩) P gne _
     have R2 : Blk (w1.setCell ⟨gt, X, none⟩ (.int .u8 ((Z : Nat) : Int))) w.heap.size 110 _ := Blk.far (p := ⟨gt, X, none⟩) R g0 _
     have B2 := hB.setCell (p := ⟨gt, X, none⟩) gge (.int .u8 ((Z : Nat) : Int))
     clear hx C b1 P R T hB
     go_wp2
     exact ⟨⟨k + 1, by omega, rfl, R2, P2, T2, B2⟩, by simp only [intOf]; omega⟩
  ·
   have i1 : (k : Int) < 255 := by omega
   have i0 : (0 : Int) ≤ (k : Int) := by omega
   have C := Lib.hid (triple_any (powF k) (powF_lt k))
   have es := Lib.hid (show powF (k + 1) = tripN (powF k) from rfl)
   have ep := Lib.hid (show pwF (k + 1) = (pwF k).set k (powF k) from rfl)
   have hl := pwF_length k
   have P1 := Blk.set P k (.int .u8 ((powF k : Nat) : Int))
   rw [ni_setIf, ← ep.out] at P1
   have R1 : Blk (wr.setCell ⟨w.heap.size + 1, k, none⟩ (.int .u8 ((powF k : Nat) : Int))) w.heap.size 110 _ := Blk.far (p := ⟨w.heap.size + 1, k, none⟩) R (by simp) _
   have c0 : wr.cell? ⟨w.heap.size + 1, k, none⟩ = some (.int .u8 (((pwF k).getD k 0 : Nat) : Int)) := by
    rw [Blk.cell P, NI_get _ _ (by omega)]
    simp [List.getD_eq_getElem?_getD, show k < (pwF k).length by omega]
   have f0 := Blk.frozen P k
   have hB1 := hB.setCell (p := ⟨w.heap.size + 1, k, none⟩) (Nat.le_succ _) (.int .u8 ((powF k : Nat) : Int))
   clear P R hB
   generalize powF k = X at *
   go_wp2_with fail
   refine (C.out _).mono ?_
   rintro _ w1 ⟨rfl, b1⟩
   generalize World.setCell wr _ _ = V at *
   have P2 := Blk.below' P1 b1
   have R2 := Blk.below' R1 b1
   have hB2 := hB1.trans (b1.mono hB1.size)
   clear P1 R1 hB1 b1 c0 f0
   go_wp2
   exact ⟨⟨k + 1, by omega, rfl, by rw [es.out], R2, P2, hB2⟩, by simp only [intOf]; omega⟩
end Go.Proofs.YtpihgljdbpnehaaDoor
