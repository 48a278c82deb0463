/- Unlike blocks become unlike ones: Sub, the mixing, the moving and the joining go back. -/
import Derived.Test.YteaddadmdjjfaaaAa
namespace Go.Proofs.Yteaddadmdjjfaaa
open Go

/-- The table, written out; and the one that goes back. -/
def boxT : List Nat := [99, 124, 119, 123, 242, 107, 111, 197, 48, 1, 103, 43, 254, 215, 171, 118, 202, 130, 201, 125, 250, 89, 71, 240, 173, 212, 162, 175, 156, 164, 114, 192, 183, 253, 147, 38, 54, 63, 247, 204, 52, 165, 229, 241, 113, 216, 49, 21, 4, 199, 35, 195, 24, 150, 5, 154, 7, 18, 128, 226, 235, 39, 178, 117, 9, 131, 44, 26, 27, 110, 90, 160, 82, 59, 214, 179, 41, 227, 47, 132, 83, 209, 0, 237, 32, 252, 177, 91, 106, 203, 190, 57, 74, 76, 88, 207, 208, 239, 170, 251, 67, 77, 51, 133, 69, 249, 2, 127, 80, 60, 159, 168, 81, 163, 64, 143, 146, 157, 56, 245, 188, 182, 218, 33, 16, 255, 243, 210, 205, 12, 19, 236, 95, 151, 68, 23, 196, 167, 126, 61, 100, 93, 25, 115, 96, 129, 79, 220, 34, 42, 144, 136, 70, 238, 184, 20, 222, 94, 11, 219, 224, 50, 58, 10, 73, 6, 36, 92, 194, 211, 172, 98, 145, 149, 228, 121, 231, 200, 55, 109, 141, 213, 78, 169, 108, 86, 244, 234, 101, 122, 174, 8, 186, 120, 37, 46, 28, 166, 180, 198, 232, 221, 116, 31, 75, 189, 139, 138, 112, 62, 181, 102, 72, 3, 246, 14, 97, 53, 87, 185, 134, 193, 29, 158, 225, 248, 152, 17, 105, 217, 142, 148, 155, 30, 135, 233, 206, 85, 40, 223, 140, 161, 137, 13, 191, 230, 66, 104, 65, 153, 45, 15, 176, 84, 187, 22]
def unT : List Nat := [82, 9, 106, 213, 48, 54, 165, 56, 191, 64, 163, 158, 129, 243, 215, 251, 124, 227, 57, 130, 155, 47, 255, 135, 52, 142, 67, 68, 196, 222, 233, 203, 84, 123, 148, 50, 166, 194, 35, 61, 238, 76, 149, 11, 66, 250, 195, 78, 8, 46, 161, 102, 40, 217, 36, 178, 118, 91, 162, 73, 109, 139, 209, 37, 114, 248, 246, 100, 134, 104, 152, 22, 212, 164, 92, 204, 93, 101, 182, 146, 108, 112, 72, 80, 253, 237, 185, 218, 94, 21, 70, 87, 167, 141, 157, 132, 144, 216, 171, 0, 140, 188, 211, 10, 247, 228, 88, 5, 184, 179, 69, 6, 208, 44, 30, 143, 202, 63, 15, 2, 193, 175, 189, 3, 1, 19, 138, 107, 58, 145, 17, 65, 79, 103, 220, 234, 151, 242, 207, 206, 240, 180, 230, 115, 150, 172, 116, 34, 231, 173, 53, 133, 226, 249, 55, 232, 28, 117, 223, 110, 71, 241, 26, 113, 29, 41, 197, 137, 111, 183, 98, 14, 170, 24, 190, 27, 252, 86, 62, 75, 198, 210, 121, 32, 154, 219, 192, 254, 120, 205, 90, 244, 31, 221, 168, 51, 136, 7, 199, 49, 177, 18, 16, 89, 39, 128, 236, 95, 96, 81, 127, 169, 25, 181, 74, 13, 45, 229, 122, 159, 147, 201, 156, 239, 160, 224, 59, 77, 174, 42, 245, 176, 200, 235, 187, 60, 131, 83, 153, 97, 23, 43, 4, 126, 186, 119, 214, 38, 225, 105, 20, 99, 85, 33, 12, 125]
theorem box_is : boxL = boxT := by decide +kernel
theorem un_box : ∀ x : Fin 256, unT.getD (boxT.getD x.val 0) 0 = x.val := by decide +kernel
theorem box_inj {x y : Nat} (hx : x < 256) (hy : y < 256) (h : boxL.getD x 0 = boxL.getD y 0) : x = y := by
  rw [box_is] at h
  have h1 := un_box ⟨x, hx⟩
  have h2 := un_box ⟨y, hy⟩
  simp only at h1 h2
  rw [← h1, h, h2]
def dbl (p : Nat) : Nat := if 255 < p * 2 then (p * 2) ^^^ 283 else p * 2
theorem dbl_xor : ∀ p q : Fin 256, dbl (p.val ^^^ q.val) = dbl p.val ^^^ dbl q.val := by decide +kernel
theorem bstep_is (a b p i : Nat) : bstep a b p i = if b / 2 ^ i % 2 = 1 then dbl p ^^^ a else dbl p := rfl
theorem xor_swap (a b c d : Nat) : (a ^^^ b) ^^^ (c ^^^ d) = (a ^^^ c) ^^^ (b ^^^ d) := by
  rw [Nat.xor_assoc, ← Nat.xor_assoc b, Nat.xor_comm b c, Nat.xor_assoc c, ← Nat.xor_assoc]
theorem byteF_xor {a c : Nat} (b : Nat) (ha : a < 256) (hc : c < 256) : ∀ k, byteF (a ^^^ c) b k = byteF a b k ^^^ byteF c b k
  | 0 => by show (0 : Nat) = 0 ^^^ 0; rfl
  | k + 1 => by
    show bstep _ _ _ _ = bstep _ _ _ _ ^^^ bstep _ _ _ _
    have h := dbl_xor ⟨_, byteF_lt b ha k⟩ ⟨_, byteF_lt b hc k⟩
    simp only at h
    rw [byteF_xor b ha hc k, bstep_is, bstep_is, bstep_is, h]
    split
    · exact xor_swap _ _ _ _
    · rfl
theorem gm_xor {a c : Nat} (b : Nat) (ha : a < 256) (hc : c < 256) : gm (a ^^^ c) b = gm a b ^^^ gm c b := byteF_xor b ha hc 8
theorem ca : ∀ x : Fin 256, gm (gm x.val 2) 14 ^^^ (gm x.val 11 ^^^ (gm x.val 13 ^^^ gm (gm x.val 3) 9)) = x.val := by decide +kernel
theorem cb : ∀ x : Fin 256, gm (gm x.val 3) 14 ^^^ (gm (gm x.val 2) 11 ^^^ (gm x.val 13 ^^^ gm x.val 9)) = 0 := by decide +kernel
theorem cC : ∀ x : Fin 256, gm x.val 14 ^^^ (gm (gm x.val 3) 11 ^^^ (gm (gm x.val 2) 13 ^^^ gm x.val 9)) = 0 := by decide +kernel
theorem cd : ∀ x : Fin 256, gm x.val 14 ^^^ (gm x.val 11 ^^^ (gm (gm x.val 3) 13 ^^^ gm (gm x.val 2) 9)) = 0 := by decide +kernel
theorem gm_xor4 (n : Nat) {a b c d : Nat} (ha : a < 256) (hb : b < 256) (hc : c < 256) (hd : d < 256) : gm (a ^^^ b ^^^ c ^^^ d) n = gm a n ^^^ gm b n ^^^ gm c n ^^^ gm d n := by
  rw [gm_xor n (xor_256 (xor_256 ha hb) hc) hd, gm_xor n (xor_256 ha hb) hc, gm_xor n ha hb]
/-- Four bytes mixed, and back. -/
theorem col (a b c d : Nat) (ha : a < 256) (hb : b < 256) (hc : c < 256) (hd : d < 256) :
    gm (gm a 2 ^^^ gm b 3 ^^^ c ^^^ d) 14 ^^^ gm (gm b 2 ^^^ gm c 3 ^^^ d ^^^ a) 11 ^^^ gm (gm c 2 ^^^ gm d 3 ^^^ a ^^^ b) 13 ^^^ gm (gm d 2 ^^^ gm a 3 ^^^ b ^^^ c) 9 = a := by
  have g := fun (x n : Nat) (h : x < 256) => gm_lt (a := x) n h
  rw [gm_xor4 14 (g a 2 ha) (g b 3 hb) hc hd, gm_xor4 11 (g b 2 hb) (g c 3 hc) hd ha, gm_xor4 13 (g c 2 hc) (g d 3 hd) ha hb, gm_xor4 9 (g d 2 hd) (g a 3 ha) hb hc]
  have h1 := ca ⟨a, ha⟩
  have h2 := cb ⟨b, hb⟩
  have h3 := cC ⟨c, hc⟩
  have h4 := cd ⟨d, hd⟩
  simp only at h1 h2 h3 h4
  have e : ∀ a1 b1 c1 d1 b2 c2 d2 a2 c3 d3 a3 b3 d4 a4 b4 c4 : Nat, (a1 ^^^ b1 ^^^ c1 ^^^ d1) ^^^ (b2 ^^^ c2 ^^^ d2 ^^^ a2) ^^^ (c3 ^^^ d3 ^^^ a3 ^^^ b3) ^^^ (d4 ^^^ a4 ^^^ b4 ^^^ c4) = (a1 ^^^ (a2 ^^^ (a3 ^^^ a4))) ^^^ ((b1 ^^^ (b2 ^^^ (b3 ^^^ b4))) ^^^ ((c1 ^^^ (c2 ^^^ (c3 ^^^ c4))) ^^^ (d1 ^^^ (d2 ^^^ (d3 ^^^ d4))))) := by
    intros
    ac_rfl
  rw [e, h1, h2, h3, h4]
  simp
def unmix (t : Nat → Nat) (i : Nat) : Nat := gm (t i) 14 ^^^ gm (t (i - i % 4 + (i + 1) % 4)) 11 ^^^ gm (t (i - i % 4 + (i + 2) % 4)) 13 ^^^ gm (t (i - i % 4 + (i + 3) % 4)) 9
theorem unmix_mix (s : Nat → Nat) (hs : ∀ i, s i < 256) (i : Nat) (hi : i < 16) : unmix (mixB s) i = s i := by
  have h := fun a b c d => col (s a) (s b) (s c) (s d) (hs a) (hs b) (hs c) (hs d)
  unfold unmix mixB
  match i, hi with
  | 0, _ => exact h 0 1 2 3
  | 1, _ => exact h 1 2 3 0
  | 2, _ => exact h 2 3 0 1
  | 3, _ => exact h 3 0 1 2
  | 4, _ => exact h 4 5 6 7
  | 5, _ => exact h 5 6 7 4
  | 6, _ => exact h 6 7 4 5
  | 7, _ => exact h 7 4 5 6
  | 8, _ => exact h 8 9 10 11
  | 9, _ => exact h 9 10 11 8
  | 10, _ => exact h 10 11 8 9
  | 11, _ => exact h 11 8 9 10
  | 12, _ => exact h 12 13 14 15
  | 13, _ => exact h 13 14 15 12
  | 14, _ => exact h 14 15 12 13
  | 15, _ => exact h 15 12 13 14
  | n + 16, h16 => exact absurd h16 (by omega)
theorem shiftB_lt (b : List Nat) (i : Nat) : shiftB boxL b i < 256 := getD_lt boxL_bytes _
theorem xor_cancel {a b k : Nat} (h : a ^^^ k = b ^^^ k) : a = b := by
  have h2 : (a ^^^ k) ^^^ k = (b ^^^ k) ^^^ k := by rw [h]
  rw [Nat.xor_assoc, Nat.xor_self, Nat.xor_zero, Nat.xor_assoc, Nat.xor_self, Nat.xor_zero] at h2
  exact h2
theorem range_map_get (f : Nat → Nat) (n i : Nat) (h : i < n) : ((List.range n).map f).getD i 0 = f i := by
  rw [List.getD_eq_getElem?_getD, List.getElem?_map, List.getElem?_range h]
  rfl
theorem shift_perm : ∀ j : Fin 16, ∃ i : Fin 16, (i.val + 4 * (i.val % 4)) % 16 = j.val := by decide +kernel
theorem shift_inj (b c : List Nat) (hb : ∀ x ∈ b, x < 256) (hc : ∀ x ∈ c, x < 256) (h : ∀ i, i < 16 → shiftB boxL b i = shiftB boxL c i) : ∀ j, j < 16 → b.getD j 0 = c.getD j 0 := fun j hj => by
  obtain ⟨i, e⟩ := shift_perm ⟨j, hj⟩
  simp only at e
  have h1 := h i.val i.isLt
  unfold shiftB at h1
  rw [e] at h1
  exact box_inj (getD_lt hb j) (getD_lt hc j) h1
theorem round_inj (ks b c : List Nat) (r : Nat) (hb : ∀ x ∈ b, x < 256) (hc : ∀ x ∈ c, x < 256) (h : roundB boxL ks b r = roundB boxL ks c r) : ∀ j, j < 16 → b.getD j 0 = c.getD j 0 := by
  have h1 : ∀ i, i < 16 → (if r < 10 then mixB (shiftB boxL b) i else shiftB boxL b i) = (if r < 10 then mixB (shiftB boxL c) i else shiftB boxL c i) := fun i hi => by
    have e := congrArg (fun l : List Nat => l.getD i 0) h
    unfold roundB at e
    simp only [range_map_get _ 16 i hi] at e
    exact xor_cancel e
  by_cases hr : r < 10
  · simp only [if_pos hr] at h1
    refine shift_inj b c hb hc fun i hi => ?_
    rw [← unmix_mix _ (shiftB_lt b) i hi, ← unmix_mix _ (shiftB_lt c) i hi]
    unfold unmix
    rw [h1 i hi, h1 _ (show i - i % 4 + (i + 1) % 4 < 16 by omega), h1 _ (show i - i % 4 + (i + 2) % 4 < 16 by omega), h1 _ (show i - i % 4 + (i + 3) % 4 < 16 by omega)]
  · simp only [if_neg hr] at h1
    exact shift_inj b c hb hc h1
theorem round_bytes {ks : List Nat} (hk : ∀ x ∈ ks, x < 256) (b : List Nat) (r : Nat) : ∀ x ∈ roundB boxL ks b r, x < 256 := fun x hx => by
  unfold roundB at hx
  obtain ⟨i, _, rfl⟩ := List.mem_map.1 hx
  refine xor_256 ?_ (getD_lt hk _)
  split
  · unfold mixB
    exact xor_256 (xor_256 (xor_256 (gm_lt _ (shiftB_lt b _)) (gm_lt _ (shiftB_lt b _))) (shiftB_lt b _)) (shiftB_lt b _)
  · exact shiftB_lt b _
theorem blockF_bytes {ks b : List Nat} (hk : ∀ x ∈ ks, x < 256) (hb : ∀ x ∈ b, x < 256) : ∀ r, ∀ x ∈ blockF boxL ks b r, x < 256
  | 0 => fun x hx => by
    unfold blockF at hx
    obtain ⟨i, _, rfl⟩ := List.mem_map.1 hx
    exact xor_256 (getD_lt hb _) (getD_lt hk _)
  | _ + 1 => round_bytes hk _ _
theorem list16 {b c : List Nat} (lb : b.length = 16) (lc : c.length = 16) (h : ∀ j, j < 16 → b.getD j 0 = c.getD j 0) : b = c := by
  apply List.ext_getElem (by rw [lb, lc])
  intro i h1 h2
  have := h i (by omega)
  rw [List.getD_eq_getElem?_getD, List.getD_eq_getElem?_getD, List.getElem?_eq_getElem h1, List.getElem?_eq_getElem h2] at this
  exact this
theorem blockF_inj {ks b c : List Nat} (hk : ∀ x ∈ ks, x < 256) (hb : ∀ x ∈ b, x < 256) (hc : ∀ x ∈ c, x < 256) (lb : b.length = 16) (lc : c.length = 16) : ∀ r, blockF boxL ks b r = blockF boxL ks c r → b = c
  | 0, h => by
    refine list16 lb lc fun j hj => ?_
    have e := congrArg (fun l : List Nat => l.getD j 0) h
    unfold blockF at e
    simp only [range_map_get _ 16 j hj] at e
    exact xor_cancel e
  | r + 1, h => by
    have h1 := round_inj ks (blockF boxL ks b r) (blockF boxL ks c r) (r + 1) (blockF_bytes hk hb r) (blockF_bytes hk hc r) h
    exact blockF_inj hk hb hc lb lc r (list16 (blockF_length _ _ _ _) (blockF_length _ _ _ _) h1)
theorem enc_inj {k b c : List Nat} (hk : ∀ x ∈ k, x < 256) (hb : ∀ x ∈ b, x < 256) (hc : ∀ x ∈ c, x < 256) (lb : b.length = 16) (lc : c.length = 16) (h : encL boxL k b = encL boxL k c) : b = c :=
  blockF_inj (keysF_bytes boxL_bytes hk 40) hb hc lb lc 10 h
end Go.Proofs.Yteaddadmdjjfaaa
