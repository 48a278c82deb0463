/- Packets sealed and opened as plain arithmetic. Numbers, keys, bytes: what speaks of no function of the program. sha2's words: what a sum of 256 bits is reckoned with; the contracts of right32, either, majority. -/
import Derived.Test.YtpihgljdbpnehaaDoorGb0Va
import Derived.Test.YtpihgljdbpnehaaDoorLq0Nb
import Derived.Test.YtpihgljdbpnehaaDoorProg
import Derived.Test.YtpihgljdbpnehaaDoorLk0Lo
import Derived.Lib.Mul64
import Derived.Deep.QuietTactic
import Derived.BigQuiet
import Derived.Deep.RegionHeld3
namespace Go.Proofs.YtpihgljdbpnehaaDoor
open Go.RowKit
/-- A packet's nonce. -/
def nonceN (nn : List Nat) (pn : Nat) : List Nat := (List.range 12).map fun i => if i < 4 then nn.getD i 0 else nn.getD i 0 ^^^ (pn / 256 ^ (11 - i) % 256)
theorem nonceN_length (nn : List Nat) (pn : Nat) : (nonceN nn pn).length = 12 := by simp [nonceN]
theorem xor_lt8 {a b : Nat} (ha : a < 256) (hb : b < 256) : a ^^^ b < 256 := Nat.xor_lt_two_pow (n := 8) ha hb
theorem nonceN_bytes {nn : List Nat} (h : Bytes nn) (pn : Nat) : Bytes (nonceN nn pn) := fun x hx => by
 obtain ⟨i, _, rfl⟩ := List.mem_map.1 hx
 split
 · exact getD_bytes h i
 · exact xor_lt8 (getD_bytes h i) (Nat.mod_lt _ (by decide))
/-- So many noughts behind bytes that a sample can be taken. -/
def padN (n : Nat) (b : List Nat) : List Nat := b ++ List.replicate (4 - (n + b.length)) 0
theorem padN_length (n : Nat) (b : List Nat) : (padN n b).length = b.length + (4 - (n + b.length)) := by simp [padN]
theorem padN_bytes (n : Nat) {b : List Nat} (h : Bytes b) : Bytes (padN n b) := h.append (Bytes.replicate _ (by decide))
/-- The sixteen bytes that are encrypted. -/
def smpN (a : Nat) (x : List Nat) : List Nat := (x.drop (a + 4)).take 16
def maskN (Mk : List Nat) (a : Nat) (x : List Nat) : List Nat := encL boxL Mk (smpN a x)
/-- A head hidden, or shown again. -/
def hidN (m : List Nat) (a n bits : Nat) (x : List Nat) : List Nat := (List.range x.length).map fun i => if i = 0 then x.getD 0 0 ^^^ (m.getD 0 0 &&& bits) else if a ≤ i ∧ i < a + n then x.getD i 0 ^^^ m.getD (1 + (i - a)) 0 else x.getD i 0
theorem hidN_length (m : List Nat) (a n bits : Nat) (x : List Nat) : (hidN m a n bits x).length = x.length := by simp [hidN]
theorem hidN_get (m : List Nat) (a n bits : Nat) (x : List Nat) (i : Nat) (h : i < x.length) : (hidN m a n bits x).getD i 0 = if i = 0 then x.getD 0 0 ^^^ (m.getD 0 0 &&& bits) else if a ≤ i ∧ i < a + n then x.getD i 0 ^^^ m.getD (1 + (i - a)) 0 else x.getD i 0 := by
 rw [List.getD_eq_getElem?_getD, List.getElem?_eq_getElem (by rw [hidN_length]; exact h)]
 simp [hidN]
theorem hidN_back (m : List Nat) (a n bits : Nat) (x : List Nat) : hidN m a n bits (hidN m a n bits x) = x := by
 refine ext0 (by rw [hidN_length, hidN_length]) fun t ht => ?_
 rw [hidN_length, hidN_length] at ht
 rw [hidN_get _ _ _ _ _ t (by rw [hidN_length]; exact ht), hidN_get _ _ _ _ _ t ht]
 by_cases t0 : t = 0
 ·
  subst t0
  rw [if_pos rfl, hidN_get _ _ _ _ _ 0 ht, if_pos rfl, xor_back]
 ·
  rw [if_neg t0, if_neg t0]
  by_cases c : a ≤ t ∧ t < a + n
  · rw [if_pos c, if_pos c, xor_back]
  · rw [if_neg c, if_neg c]
theorem smp_hid (m : List Nat) (a n bits : Nat) (x : List Nat) (_ha : 1 ≤ a) (hn : n ≤ 4) : smpN a (hidN m a n bits x) = smpN a x := by
 unfold smpN
 refine ext0 (by simp [hidN_length]) fun t ht => ?_
 simp only [List.length_take, List.length_drop, hidN_length] at ht
 have g : ∀ l : List Nat, ((l.drop (a + 4)).take 16).getD t 0 = l.getD (a + 4 + t) 0 := fun l => by
  rw [List.getD_eq_getElem?_getD, List.getElem?_take, if_pos (by omega), List.getElem?_drop, ← List.getD_eq_getElem?_getD]
 rw [g, g, hidN_get _ _ _ _ _ _ (by omega), if_neg (by omega), if_neg (by omega)]
theorem smpN_length (a : Nat) (x : List Nat) (h : a + 20 ≤ x.length) : (smpN a x).length = 16 := by
 simp only [smpN, List.length_take, List.length_drop]
 omega
/-- A packet sealed: the error's number, the bytes. -/
def sealG (K N Mk : List Nat) (sp : Int) (to fr : List Nat) (pn acked : Nat) (b : List Nat) : Nat × List Nat :=
 if 4611686018427387904 ≤ pn ∨ pn < acked then (2, [])
 else if (putF sp to fr pn (shortN pn acked : Nat) (((padN (shortN pn acked) b).length + 16 : Nat) : Int)).1 ≠ 0 then ((putF sp to fr pn (shortN pn acked : Nat) (((padN (shortN pn acked) b).length + 16 : Nat) : Int)).1, [])
 else
  let hd := (putF sp to fr pn (shortN pn acked : Nat) (((padN (shortN pn acked) b).length + 16 : Nat) : Int)).2
  let y := hd ++ sealL K (nonceN N pn) hd (padN (shortN pn acked) b)
  (0, hidN (maskN Mk (hd.length - shortN pn acked) y) (hd.length - shortN pn acked) (shortN pn acked) (if sp = 2 then 31 else 15) y)
/-- A packet opened, its first byte shown: the error's number, the packet's number, what it carries. -/
def openH (K N m y0 : List Nat) (a f next : Nat) : Nat × Nat × List Nat :=
 let n := f % 4 + 1
 let y := hidN m a n (if y0.getD 0 0 < 128 then 31 else 15) y0
 let pn := fullN (beN 0 ((y.drop a).take n)) n next
 match openL K (nonceN N pn) (y.take (a + n)) (y.drop (a + n)) with
 | none => (11, 0, [])
 | some t => if f &&& (if y0.getD 0 0 < 128 then 28 else 12) ≠ 0 then (5, 0, []) else (0, pn, t)
def openG (K N Mk x : List Nat) (a e : Int) (next : Nat) : Nat × Nat × List Nat :=
 if a < 1 ∨ (x.length : Int) < e ∨ e < a ∨ e - a < 20 then (3, 0, [])
 else openH K N (maskN Mk a.toNat (x.take e.toNat)) (x.take e.toNat) a.toNat ((x.take e.toNat).getD 0 0 ^^^ ((maskN Mk a.toNat (x.take e.toNat)).getD 0 0 &&& (if (x.take e.toNat).getD 0 0 < 128 then 31 else 15))) next
theorem xor_low (a c : Nat) (hc : c < 32) : (a ^^^ c < 128) ↔ a < 128 := by
 have e : (a ^^^ c) / 32 = a / 32 := by
  have h := Nat.shiftRight_xor_distrib (a := a) (b := c) (i := 5)
  rw [Nat.shiftRight_eq_div_pow, Nat.shiftRight_eq_div_pow, Nat.shiftRight_eq_div_pow] at h
  rw [show (2 : Nat) ^ 5 = 32 from rfl] at h
  rw [h, Nat.div_eq_of_lt hc, Nat.xor_zero]
 omega
theorem headB_first (sp : Nat) (to fr : List Nat) (pn n z : Nat) : (headB sp to fr pn n z).getD 0 0 = if sp = 2 then 63 + n else 191 + 32 * sp + n := by
 unfold headB
 split <;> rfl
theorem headB_place (sp : Nat) (hs : sp ≤ 2) (to fr : List Nat) (ht : to.length = 8) (hf : fr.length = 8) (pn n z : Nat) : (headB sp to fr pn n z).length = (if sp = 0 then 26 else if sp = 1 then 25 else 9) + n := by
 have : sp = 0 ∨ sp = 1 ∨ sp = 2 := by omega
 unfold headB
 rcases this with rfl | rfl | rfl
 ·
  simp [longB, zeroB, ht, hf, beL_length]
  omega
 ·
  simp [longB, zeroB, ht, hf, beL_length]
  omega
 ·
  simp [ht, beL_length]
  omega
theorem headB_number (sp : Nat) (to fr : List Nat) (pn n z : Nat) : (headB sp to fr pn n z).drop ((headB sp to fr pn n z).length - n) = beL pn n := by
 have h : ∃ p, headB sp to fr pn n z = p ++ beL pn n := by
  unfold headB
  split
  · exact ⟨(63 + n) :: to, rfl⟩
  · exact ⟨(191 + 32 * sp + n) :: longB sp to fr (n + z), rfl⟩
 obtain ⟨p, e⟩ := h
 rw [e, List.length_append, beL_length, Nat.add_sub_cancel, List.drop_left]
theorem short_room (pn acked : Nat) (h : pn - acked < 70000) : 2 * (pn - acked) < 256 ^ shortN pn acked := by
 unfold shortN
 split
 ·
  rw [show (256 : Nat) ^ 1 = 256 from rfl]
  omega
 ·
  split
  ·
   rw [show (256 : Nat) ^ 2 = 65536 from rfl]
   omega
  ·
   split
   ·
    rw [show (256 : Nat) ^ 3 = 16777216 from rfl]
    omega
   ·
    rw [show (256 : Nat) ^ 4 = 4294967296 from rfl]
    omega
theorem pow_ws {n : Nat} (h : n = 1 ∨ n = 2 ∨ n = 3 ∨ n = 4) : 256 ^ n = 256 ∨ 256 ^ n = 65536 ∨ 256 ^ n = 16777216 ∨ 256 ^ n = 4294967296 := by
 rcases h with rfl | rfl | rfl | rfl <;> decide
/-- What is sealed is opened. -/
theorem open_sealG (K N Mk : List Nat) (sp : Nat) (hs : sp ≤ 2) (to fr : List Nat) (ht : to.length = 8) (hf : fr.length = 8) (pn acked next : Nat) (b more : List Nat) (hp : pn < 4611686018427387904) (ha : acked ≤ next) (hn : next ≤ pn) (hd : pn - acked < 70000) (hb : b.length ≤ 1000) :
  (sealG K N Mk sp to fr pn acked b).1 = 0 ∧ openG K N Mk ((sealG K N Mk sp to fr pn acked b).2 ++ more) (((if sp = 0 then 26 else if sp = 1 then 25 else 9) : Nat) : Int) (((sealG K N Mk sp to fr pn acked b).2.length : Nat) : Int) next = (0, pn, padN (shortN pn acked) b) := by
 have n4 := shortN_is pn acked
 have room := short_room pn acked hd
 obtain ⟨n, hn4⟩ : ∃ n, shortN pn acked = n := ⟨_, rfl⟩
 rw [hn4] at n4 room
 have lp := padN_length n b
 obtain ⟨c, hc⟩ : ∃ c, padN n b = c := ⟨_, rfl⟩
 rw [hc] at lp
 have pf : putF (sp : Int) to fr pn (n : Int) ((c.length + 16 : Nat) : Int) = (0, headB sp to fr pn n (c.length + 16)) := if_neg (by unfold badH; omega)
 unfold sealG
 rw [hn4, hc, if_neg (by omega), pf, if_neg (fun e => e rfl)]
 dsimp only
 have pl := headB_place sp hs to fr ht hf pn n (c.length + 16)
 have fst := headB_first sp to fr pn n (c.length + 16)
 have num := headB_number sp to fr pn n (c.length + 16)
 obtain ⟨h, hh⟩ : ∃ h, headB sp to fr pn n (c.length + 16) = h := ⟨_, rfl⟩
 rw [hh] at pl fst num ⊢
 obtain ⟨a, ha2⟩ : ∃ a, (if sp = 0 then 26 else if sp = 1 then 25 else 9) = a := ⟨_, rfl⟩
 have a1 : 9 ≤ a := by
  rw [← ha2]
  split
  · decide
  · split <;> decide
 rw [ha2] at pl ⊢
 rw [show h.length - n = a by omega] at num ⊢
 obtain ⟨S, hS⟩ : ∃ S, sealL K (nonceN N pn) h c = S := ⟨_, rfl⟩
 have lS : S.length = c.length + 16 := by rw [← hS]; exact sealL_length _ _ _ _
 have oS : openL K (nonceN N pn) h S = some c := by rw [← hS]; exact open_seal _ _ _ _
 rw [hS]
 obtain ⟨bits, hbits⟩ : ∃ bits, (if (sp : Int) = 2 then 31 else 15) = bits := ⟨_, rfl⟩
 rw [hbits]
 obtain ⟨m, hm⟩ : ∃ m, maskN Mk a (h ++ S) = m := ⟨_, rfl⟩
 rw [hm]
 obtain ⟨x, hx⟩ : ∃ x, hidN m a n bits (h ++ S) = x := ⟨_, rfl⟩
 have lx : x.length = a + n + (c.length + 16) := by rw [← hx, hidN_length, List.length_append, pl, lS]
 have sx : maskN Mk a x = m := by
  rw [← hm, ← hx]
  unfold maskN
  rw [smp_hid _ _ _ _ _ (by omega) (by omega)]
 have bx : hidN m a n bits x = h ++ S := by rw [← hx]; exact hidN_back _ _ _ _ _
 have x0 : x.getD 0 0 = h.getD 0 0 ^^^ (m.getD 0 0 &&& bits) := by
  have hl : 0 < h.length := by omega
  rw [← hx, hidN_get _ _ _ _ _ 0 (by rw [List.length_append]; omega), if_pos rfl]
  congr 1
  rw [List.getD_eq_getElem?_getD, List.getElem?_append_left hl, ← List.getD_eq_getElem?_getD]
 rw [hx]
 refine ⟨rfl, ?_⟩
 unfold openG
 rw [if_neg (by rw [List.length_append]; omega)]
 rw [Int.toNat_natCast, Int.toNat_natCast, List.take_left, sx]
 have bl : bits < 32 := by
  rw [← hbits]
  split <;> decide
 have low : (x.getD 0 0 < 128) ↔ h.getD 0 0 < 128 := by
  rw [x0]
  exact xor_low _ _ (Nat.lt_of_le_of_lt Nat.and_le_right bl)
 have b1 : (if x.getD 0 0 < 128 then 31 else 15) = bits := by
  rw [← hbits]
  by_cases s2 : sp = 2
  · rw [if_pos (low.2 (by rw [fst, if_pos s2]; omega)), if_pos (by omega)]
  · rw [if_neg (fun e => by have := low.1 e; rw [fst, if_neg s2] at this; omega), if_neg (by omega)]
 rw [b1, x0, xor_back]
 unfold openH
 rw [b1]
 dsimp only
 have f4 : h.getD 0 0 % 4 + 1 = n := by
  rw [fst]
  split <;> omega
 rw [f4, bx]
 have d1 : ((h ++ S).drop a).take n = beL pn n := by
  rw [List.drop_append_of_le_length (by omega), num]
  exact List.take_left' (beL_length pn n)
 have t1 : (h ++ S).take (a + n) = h := by rw [← pl]; exact List.take_left
 have t2 : (h ++ S).drop (a + n) = S := by rw [← pl]; exact List.drop_left
 rw [d1, t1, t2]
 have fn : fullN (beN 0 (beL pn n)) n next = pn := by
  rw [beN_beL, Nat.zero_mul, Nat.zero_add]
  exact fullW_near _ pn acked next (pow_ws n4) room ha hn hp
 rw [fn, oS]
 dsimp only
 rw [if_neg]
 intro e
 apply e
 by_cases s2 : sp = 2
 ·
  rw [if_pos (low.2 (by rw [fst, if_pos s2]; omega)), fst, if_pos s2]
  rcases n4 with rfl | rfl | rfl | rfl <;> decide
 ·
  rw [if_neg (fun e => by have := low.1 e; rw [fst, if_neg s2] at this; omega), fst, if_neg s2]
  have : sp = 0 ∨ sp = 1 := by omega
  rcases this with rfl | rfl <;> rcases n4 with rfl | rfl | rfl | rfl <;> decide
end Go.Proofs.YtpihgljdbpnehaaDoor
namespace Go.Proofs.YtpihgljdbpnehaaDoor
open Go.RowKit
def Key (l : List Int) : Value := .agg (Iv .u8 l)
structure OnesW (w wr : World) (k : Nat) : Prop where
 res : Blk wr w.heap.size 23 (Iv .u8 (List.replicate 32 0))
 key : Blk wr (w.heap.size + 1) 23 (Iv .u8 (fill 32 (fun _ => 255) k))
 b : Below w.heap.size w wr
theorem OnesW.step {w wr : World} {k : Nat} (h : OnesW w wr k) : OnesW w (wr.setCell ⟨w.heap.size + 1, k, none⟩ (.int .u8 255)) (k + 1) := by
 refine ⟨h.res.far (by simp) _, ?_, h.b.setCell (by simp) _⟩
 have := h.key.set k (.int .u8 255)
 rw [Iv_set, fill_set 32 (fun _ => 255) k] at this
 exact this
structure AwakeW (w wr : World) (k : Nat) : Prop where
 key : Blk wr w.heap.size 23 (Iv .u8 (fill 32 (fun _ => 255) k))
 b : Below w.heap.size w wr
theorem AwakeW.step {w wr : World} {k : Nat} (h : AwakeW w wr k) : AwakeW w (wr.setCell ⟨w.heap.size, k, none⟩ (.int .u8 255)) (k + 1) := by
 refine ⟨?_, h.b.setCell (by simp) _⟩
 have := h.key.set k (.int .u8 255)
 rw [Iv_set, fill_set 32 (fun _ => 255) k] at this
 exact this
end Go.Proofs.YtpihgljdbpnehaaDoor
namespace Go.Proofs.YtpihgljdbpnehaaDoor
open Go.RowKit
/-- A word of 32 bits turned right. -/
def rr (x n : Nat) : Nat := x * 2 ^ (32 - n) % 4294967296 + x / 2 ^ n
theorem rr_lt (x n : Nat) (hx : x < 4294967296) (h0 : 0 < n) (hn : n < 32) : rr x n < 4294967296 := by
 unfold rr
 have h1 : x / 2 ^ n < 2 ^ (32 - n) := by
  rw [Nat.div_lt_iff_lt_mul (Nat.pow_pos (by decide)), ← Nat.pow_add, show 32 - n + n = 32 by omega]
  exact hx
 have h2 : x * 2 ^ (32 - n) % 4294967296 + 2 ^ (32 - n) ≤ 4294967296 := by
  have e : (4294967296 : Nat) = 2 ^ (32 - n) * 2 ^ n := by rw [← Nat.pow_add, show 32 - n + n = 32 by omega]
  rw [e, Nat.mul_comm x, Nat.mul_mod_mul_left, ← Nat.mul_succ]
  exact Nat.mul_le_mul_left _ (Nat.mod_lt _ (Nat.pow_pos (by decide)))
 omega
theorem and_lt (a b : Nat) (ha : a < 4294967296) : a &&& b < 4294967296 := Nat.lt_of_le_of_lt Nat.and_le_left ha
theorem xor_lt (a b : Nat) (ha : a < 4294967296) (hb : b < 4294967296) : a ^^^ b < 4294967296 := Nat.xor_lt_two_pow (n := 32) ha hb
def ei (e f g : Nat) : Nat := e &&& f ^^^ (4294967295 ^^^ e) &&& g
def ma (a b c : Nat) : Nat := a &&& b ^^^ a &&& c ^^^ b &&& c
theorem wraps_u32 (n : Int) (h₀ : 0 ≤ n) (h₁ : n < 2 ^ 32) : IntKind.u32.wrap n = n := by rw [IntKind.wrap_u32]; omega
theorem or32 (i : Nat) (x y : Int) (hx0 : 0 ≤ x) (hx : x % 2 ^ i = 0) (hx1 : x < 2 ^ 32) (h0 : 0 ≤ y) (h1 : y < 2 ^ i) (hi : (2 : Int) ^ i ≤ 2 ^ 32) : bits .or .u32 x y = x + y :=
 bits_join .u32 32 (by decide) wraps_u32 i x y hx0 hx hx1 h0 h1 (by omega)
theorem or_rr (x n : Nat) (hx : x < 4294967296) (h0 : 0 < n) (hn : n < 32) :
  bits .or .u32 (IntKind.u32.wrap ((x : Int) * 2 ^ (32 - n))) ((x : Int) / 2 ^ n) = ((rr x n : Nat) : Int) := by
 have e1 : IntKind.u32.wrap ((x : Int) * 2 ^ (32 - n)) = ((x * 2 ^ (32 - n) % 4294967296 : Nat) : Int) := by
  rw [IntKind.wrap_u32, Int.natCast_emod, Int.natCast_mul, Int.natCast_pow]
  rfl
 have e2 : (x : Int) / 2 ^ n = ((x / 2 ^ n : Nat) : Int) := by simp
 have h1 : x / 2 ^ n < 2 ^ (32 - n) := by
  rw [Nat.div_lt_iff_lt_mul (Nat.pow_pos (by decide)), ← Nat.pow_add, show 32 - n + n = 32 by omega]
  exact hx
 have h3 : 2 ^ (32 - n) ∣ x * 2 ^ (32 - n) % 4294967296 := by
  rw [Nat.dvd_mod_iff (Nat.pow_dvd_pow 2 (show 32 - n ≤ 32 by omega))]
  exact ⟨x, Nat.mul_comm _ _⟩
 have h4 : x * 2 ^ (32 - n) % 4294967296 < 4294967296 := Nat.mod_lt _ (by decide)
 have h5 : 2 ^ (32 - n) ≤ 2 ^ 32 := Nat.pow_le_pow_right (by decide) (by omega)
 have ep : (2 : Int) ^ (32 - n) = ((2 ^ (32 - n) : Nat) : Int) := by rw [Int.natCast_pow]; rfl
 rw [e1, e2]
 unfold rr
 generalize x * 2 ^ (32 - n) % 4294967296 = A at *
 generalize x / 2 ^ n = D at *
 generalize hP : (2 : Nat) ^ (32 - n) = P at *
 rw [or32 (32 - n) _ _ (by omega) (by rw [ep, ← Int.natCast_emod, Nat.mod_eq_zero_of_dvd h3]; rfl) (by omega) (by omega) (by rw [ep]; omega) (by rw [ep]; omega)]
 omega
set_option maxHeartbeats 1000000 in
theorem right32_any (x n : Nat) (w : World) (hx : x < 4294967296) (h0 : 0 < n) (hn : n < 32) : Calls Tryd.prog 87 #[.int .u32 x, .int .i64 n] w fun e w' => e = .returned (.int .u32 ((rr x n : Nat) : Int)) ∧ w = w' := by
 have hr := or_rr x n hx h0 hn
 have i1 : IntKind.i64.wrap (-(n : Int)) = -(n : Int) := by rw [IntKind.wrap_i64]; omega
 have i2 : IntKind.u64.wrap (-(n : Int)) = ((18446744073709551616 - n : Nat) : Int) := by rw [IntKind.wrap_u64]; omega
 have i3 : bits .and .u64 ((18446744073709551616 - n : Nat) : Int) 31 = ((32 - n : Nat) : Int) := by
  have h := u64_and_nat (18446744073709551616 - n) 31 (by omega) (by omega)
  have e : (18446744073709551616 - n) &&& 31 = (18446744073709551616 - n) % 32 := Nat.and_two_pow_sub_one_eq_mod _ 5
  rw [e] at h
  exact h.trans (by congr 1; omega)
 obtain ⟨s, hs⟩ : ∃ s, s = 32 - n := ⟨_, rfl⟩
 rw [← hs] at i3 hr
 have i4 : IntKind.u64.wrap (32 - (s : Int)) = (n : Int) := by rw [IntKind.wrap_u64]; omega
 have i5 : (0 : Int) ≤ (s : Int) := by omega
 have i6 : min s 32 = s := by omega
 have i7 : min n 32 = n := by omega
 rw [IntKind.wrap_u32] at hr
 have HR := Lib.hid hr
 clear hr hs
 go_enter Tryd.func87, Tryd.ntmps87
 go_wp2
 go_ret
 exact ⟨ret_int HR.out, rfl⟩
set_option maxHeartbeats 1000000 in
theorem either_any (e f g : Nat) (w : World) (he : e < 4294967296) (hf : f < 4294967296) (hg : g < 4294967296) : Calls Tryd.prog 88 #[.int .u32 e, .int .u32 f, .int .u32 g] w fun r w' => r = .returned (.int .u32 ((ei e f g : Nat) : Int)) ∧ w = w' := by
 have lm : (4294967295 : Nat) ^^^ e < 4294967296 := xor_lt _ _ (by decide) he
 have e0 : bits .xor .u32 IntKind.u32.max (e : Int) = ((4294967295 ^^^ e : Nat) : Int) := u32_xor_nat 4294967295 e (by decide) he
 have e1 := u32_and_nat e f he hf
 have e2 := u32_and_nat _ g lm hg
 have e3 := u32_xor_nat _ _ (and_lt e f he) (and_lt _ g lm)
 have E : Hid (bits .xor .u32 (bits .and .u32 (e : Int) (f : Int)) (bits .and .u32 (bits .xor .u32 IntKind.u32.max (e : Int)) (g : Int)) = ((ei e f g : Nat) : Int)) := Lib.hid (by rw [e0, e1, e2, e3]; rfl)
 clear e0 e1 e2 e3 lm
 go_enter Tryd.func88, Tryd.ntmps88
 go_wp2
 go_ret
 exact ⟨ret_int E.out, rfl⟩
set_option maxHeartbeats 1000000 in
theorem majority_any (a b c : Nat) (w : World) (ha : a < 4294967296) (hb : b < 4294967296) (hc : c < 4294967296) : Calls Tryd.prog 89 #[.int .u32 a, .int .u32 b, .int .u32 c] w fun r w' => r = .returned (.int .u32 ((ma a b c : Nat) : Int)) ∧ w = w' := by
 have e1 := u32_and_nat a b ha hb
 have e2 := u32_and_nat a c ha hc
 have e3 := u32_and_nat b c hb hc
 have e4 := u32_xor_nat _ _ (and_lt a b ha) (and_lt a c ha)
 have e5 := u32_xor_nat _ _ (xor_lt _ _ (and_lt a b ha) (and_lt a c ha)) (and_lt b c hb)
 have E : Hid (bits .xor .u32 (bits .xor .u32 (bits .and .u32 (a : Int) (b : Int)) (bits .and .u32 (a : Int) (c : Int))) (bits .and .u32 (b : Int) (c : Int)) = ((ma a b c : Nat) : Int)) := Lib.hid (by rw [e1, e2, e3, e4, e5]; rfl)
 clear e1 e2 e3 e4 e5
 go_enter Tryd.func89, Tryd.ntmps89
 go_wp2
 go_ret
 exact ⟨ret_int E.out, rfl⟩
end Go.Proofs.YtpihgljdbpnehaaDoor
