/- GCM's multiplication as plain arithmetic; the reference's Block, its contract. The reference's counter: its contract. The reference's hash: what memory holds, what it reckons. Sealing and opening as plain arithmetic. -/
import Derived.Test.YtpihgljdbpnehaaDoorHSj0Bm
import Derived.Laws.BitsLemmas
namespace Go.Proofs.YtpihgljdbpnehaaDoor
open Go.RowKit
/-- Turned by one bit, towards the higher powers. -/
def shF (f : Nat → Nat) (k : Nat) : Nat := f k / 2 + (if k = 0 then 0 else f (k - 1) % 2) * 128
def gturnF (f : Nat → Nat) (k : Nat) : Nat := if k = 0 ∧ f 15 % 2 = 1 then shF f 0 ^^^ 225 else shF f k
def gbF (b : Nat → Nat) : Nat → Nat → Nat
  | 0 => b
  | i + 1 => gturnF (gbF b i)
def gpF (a b : Nat → Nat) : Nat → Nat → Nat
  | 0 => fun _ => 0
  | i + 1 => fun k => if a (i / 8) / 2 ^ (7 - i % 8) % 2 = 1 then gpF a b i k ^^^ gbF b i k else gpF a b i k
/-- The product of two blocks. -/
def timesF (a b : Nat → Nat) : Nat → Nat := gpF a b 128
theorem shF_lt {f : Nat → Nat} (h : ∀ i, f i < 256) (k : Nat) : shF f k < 256 := by
  unfold shF
  have := h k
  split <;> omega
theorem gturnF_lt {f : Nat → Nat} (h : ∀ i, f i < 256) (k : Nat) : gturnF f k < 256 := by
  unfold gturnF
  split
  · exact Nat.xor_lt_two_pow (n := 8) (shF_lt h 0) (by decide)
  · exact shF_lt h k
theorem gbF_lt {b : Nat → Nat} (h : ∀ i, b i < 256) : ∀ i k, gbF b i k < 256
  | 0, k => h k
  | i + 1, k => gturnF_lt (gbF_lt h i) k
theorem gpF_lt {a b : Nat → Nat} (h : ∀ i, b i < 256) : ∀ i k, gpF a b i k < 256
  | 0, _ => by show 0 < 256; decide
  | i + 1, k => by
    show (if a (i / 8) / 2 ^ (7 - i % 8) % 2 = 1 then gpF a b i k ^^^ gbF b i k else gpF a b i k) < 256
    split
    · exact Nat.xor_lt_two_pow (n := 8) (gpF_lt h i k) (gbF_lt h i k)
    · exact gpF_lt h i k
theorem timesF_lt {a b : Nat → Nat} (h : ∀ i, b i < 256) (k : Nat) : timesF a b k < 256 := gpF_lt h 128 k
/-- What memory holds in Block. -/
structure GS (w : World) (a f p : Nat → Nat) (wr : World) : Prop where
  a : B16 wr w.heap.size a
  b : B16 wr (w.heap.size + 1) f
  r : B16 wr (w.heap.size + 1 + 1) (fun _ => 0)
  p : B16 wr (w.heap.size + 1 + 1 + 1) p
  bl : Below w.heap.size w wr
section
variable {w wr : World} {a f p : Nat → Nat}
theorem GS.drew (h : GS w a f p wr) : GS w a f p wr.drew := ⟨h.a.of_block rfl, h.b.of_block rfl, h.r.of_block rfl, h.p.of_block rfl, below_drew h.bl⟩
theorem GS.congr (h : GS w a f p wr) {f' p' : Nat → Nat} (h1 : ∀ i, i < 16 → f i = f' i) (h2 : ∀ i, i < 16 → p i = p' i) : GS w a f' p' wr := ⟨h.a, h.b.congr h1, h.r, h.p.congr h2, h.bl⟩
theorem GS.setB (h : GS w a f p wr) (k : Nat) (f' : Nat → Nat) (hk : k < 16) (ho : ∀ i, i ≠ k → f' i = f i) : GS w a f' p (wr.setCell ⟨w.heap.size + 1, k, none⟩ (.int .u8 ((f' k : Nat) : Int))) :=
  ⟨h.a.of_block (heap_setCell_other wr _ _ _ (by dsimp only; omega)), h.b.set k f' hk ho, h.r.of_block (heap_setCell_other wr _ _ _ (by dsimp only; omega)), h.p.of_block (heap_setCell_other wr _ _ _ (by dsimp only; omega)), h.bl.setCell (p := ⟨w.heap.size + 1, k, none⟩) (by simp) _⟩
end
theorem xor_u8 (x y : Nat) (hx : x < 256) (hy : y < 256) : bits .xor .u8 (x : Int) (y : Int) = ((x ^^^ y : Nat) : Int) := u8_xor_nat x y hx hy
/-- What goes over from one byte to the next. -/
def cF (f : Nat → Nat) (j : Nat) : Nat := if j = 0 then 0 else f (j - 1) % 2
end Go.Proofs.YtpihgljdbpnehaaDoor
namespace Go.Proofs.YtpihgljdbpnehaaDoor
open Go.RowKit
/-- Twelve bytes by a function. -/
def L12 (f : Nat → Nat) : List Nat := (List.range 12).map f
theorem L12_length (f : Nat → Nat) : (L12 f).length = 12 := by simp [L12]
def N12 (w : World) (g : Nat) (f : Nat → Nat) : Prop := Blk w g 28 (Iv .u8 (NI (L12 f)))
theorem N12.cell {w : World} {g : Nat} {f : Nat → Nat} (h : N12 w g f) (i : Nat) (hi : i < 12) : w.cell? ⟨g, i, none⟩ = some (.int .u8 ((f i : Nat) : Int)) := by
  rw [Blk.cell h, NI_get _ _ (by rw [L12_length]; exact hi)]
  simp [L12]
/-- The counter block. -/
def counterF (f : Nat → Nat) (n i : Nat) : Nat := if i < 12 then f i else if i = 14 then n / 256 else if i = 15 then n % 256 else 0
theorem counterF_lt {f : Nat → Nat} (h : ∀ i, f i < 256) {n : Nat} (hn : n < 65536) (i : Nat) : counterF f n i < 256 := by
  unfold counterF
  have := h i
  split
  · exact this
  · split
    · omega
    · split <;> omega
structure CS (w : World) (f p : Nat → Nat) (wr : World) : Prop where
  n : N12 wr w.heap.size f
  r : B16 wr (w.heap.size + 1) (fun _ => 0)
  p : B16 wr (w.heap.size + 1 + 1) p
  bl : Below w.heap.size w wr
end Go.Proofs.YtpihgljdbpnehaaDoor
namespace Go.Proofs.YtpihgljdbpnehaaDoor
open Go.RowKit
/-- Y joined with block j of bytes. -/
def joinF (y : Nat → Nat) (l : List Nat) (j i : Nat) : Nat := y i ^^^ l.getD (16 * j + i) 0
def hashF (y h : Nat → Nat) (l : List Nat) : Nat → Nat → Nat
  | 0 => y
  | j + 1 => timesF (joinF (hashF y h l j) l j) h
theorem joinF_lt {y : Nat → Nat} {l : List Nat} (hy : ∀ i, y i < 256) (hl : ∀ x ∈ l, x < 256) (j i : Nat) : joinF y l j i < 256 := by
  unfold joinF
  exact Nat.xor_lt_two_pow (n := 8) (hy i) (Bytes.getD hl _)
theorem hashF_lt {y h : Nat → Nat} {l : List Nat} (hy : ∀ i, y i < 256) (hh : ∀ i, h i < 256) : ∀ j i, hashF y h l j i < 256
  | 0, i => hy i
  | _j + 1, i => timesF_lt hh i
structure HS (w : World) (v : Value) (l : List Nat) (y h : Nat → Nat) (wr : World) : Prop where
  y : B16 wr w.heap.size y
  h : B16 wr (w.heap.size + 1) h
  r : B16 wr (w.heap.size + 1 + 1) (fun _ => 0)
  s : SB wr v l
  bl : Below w.heap.size w wr
section
variable {w wr : World} {v : Value} {l : List Nat} {y h : Nat → Nat}
theorem HS.drew (H : HS w v l y h wr) : HS w v l y h wr.drew := ⟨H.y.of_block rfl, H.h.of_block rfl, H.r.of_block rfl, H.s.below (below_drew (Below.refl _ _)), below_drew H.bl⟩
theorem HS.below (H : HS w v l y h wr) {w1 : World} (b : Below wr.heap.size wr w1) : HS w v l y h w1 := ⟨Blk.below' H.y b, Blk.below' H.h b, Blk.below' H.r b, H.s.below b, H.bl.trans (b.mono H.bl.size)⟩
theorem HS.setY (hs : SB w v l) (H : HS w v l y h wr) (k : Nat) (y' : Nat → Nat) (hk : k < 16) (ho : ∀ i, i ≠ k → y' i = y i) : HS w v l y' h (wr.setCell ⟨w.heap.size, k, none⟩ (.int .u8 ((y' k : Nat) : Int))) :=
  have b := H.bl.setCell (p := ⟨w.heap.size, k, none⟩) (Nat.le_refl _) (.int .u8 ((y' k : Nat) : Int))
  ⟨H.y.set k y' hk ho, H.h.of_block (heap_setCell_other wr _ _ _ (by dsimp only; omega)), H.r.of_block (heap_setCell_other wr _ _ _ (by dsimp only; omega)), hs.below b, b⟩
end
end Go.Proofs.YtpihgljdbpnehaaDoor
namespace Go.Proofs.YtpihgljdbpnehaaDoor
open Go
/-- A nonce as a function. -/
def nF (nonce : List Nat) (t : Nat) : Nat := nonce.getD t 0
/-- The counter block n, encrypted. -/
def ecL (k nonce : List Nat) (n : Nat) : List Nat := encL boxL k (LB (counterF (nF nonce) n))
def strF (k nonce : List Nat) (i : Nat) : Nat := (ecL k nonce (i / 16 + 2)).getD (i % 16) 0
/-- Bytes joined with the stream. -/
def xorS (k nonce b : List Nat) : List Nat := (List.range b.length).map fun i => b.getD i 0 ^^^ strF k nonce i
def hK (k : List Nat) (i : Nat) : Nat := (encL boxL k (LB fun _ => 0)).getD i 0
def hashL (y h : Nat → Nat) (l : List Nat) : Nat → Nat := hashF y h l ((l.length + 15) / 16)
/-- A number of bits as eight bytes. -/
def bitsL (n : Nat) : List Nat := (List.range 8).map fun i => n * 8 / 2 ^ (56 - 8 * i) % 256
def lensL (n m : Nat) : List Nat := bitsL n ++ bitsL m
def tagY (k beside ct : List Nat) : Nat → Nat := hashL (hashL (hashL (fun _ => 0) (hK k) beside) (hK k) ct) (hK k) (lensL beside.length ct.length)
def tagL (k nonce beside ct : List Nat) : List Nat := LB fun i => tagY k beside ct i ^^^ (ecL k nonce 1).getD i 0
def sealL (k nonce beside b : List Nat) : List Nat := xorS k nonce b ++ tagL k nonce beside (xorS k nonce b)
def openL (k nonce beside s : List Nat) : Option (List Nat) :=
  if 16 ≤ s.length ∧ tagL k nonce beside (s.take (s.length - 16)) = s.drop (s.length - 16) then some (xorS k nonce (s.take (s.length - 16))) else none
theorem ecL_length (k nonce : List Nat) (n : Nat) : (ecL k nonce n).length = 16 := blockF_length _ _ _ _
theorem xorS_length (k nonce b : List Nat) : (xorS k nonce b).length = b.length := by simp [xorS]
theorem tagL_length (k nonce beside ct : List Nat) : (tagL k nonce beside ct).length = 16 := LB_length _
theorem sealL_length (k nonce beside b : List Nat) : (sealL k nonce beside b).length = b.length + 16 := by
  unfold sealL
  rw [List.length_append, xorS_length, tagL_length]
theorem xorS_get (k nonce b : List Nat) (i : Nat) (h : i < b.length) : (xorS k nonce b).getD i 0 = b.getD i 0 ^^^ strF k nonce i := by
  simp [xorS, List.getD_eq_getElem?_getD, List.getElem?_map, List.getElem?_range h]
theorem xor_back (a b : Nat) : a ^^^ b ^^^ b = a := by rw [Nat.xor_assoc, Nat.xor_self, Nat.xor_zero]
theorem ext0 {a b : List Nat} (hl : a.length = b.length) (h : ∀ t, t < a.length → a.getD t 0 = b.getD t 0) : a = b := by
  apply List.ext_getElem hl
  intro i h1 h2
  have := h i h1
  rw [List.getD_eq_getElem?_getD, List.getD_eq_getElem?_getD, List.getElem?_eq_getElem h1, List.getElem?_eq_getElem h2] at this
  exact this
theorem xorS_back (k nonce b : List Nat) : xorS k nonce (xorS k nonce b) = b := by
  refine ext0 (by rw [xorS_length, xorS_length]) fun t ht => ?_
  rw [xorS_length, xorS_length] at ht
  rw [xorS_get _ _ _ _ (by rw [xorS_length]; exact ht), xorS_get _ _ _ _ ht, xor_back]
theorem open_seal (k nonce beside b : List Nat) : openL k nonce beside (sealL k nonce beside b) = some b := by
  unfold openL
  have hl := sealL_length k nonce beside b
  have ht : (sealL k nonce beside b).take ((sealL k nonce beside b).length - 16) = xorS k nonce b := by
    rw [hl, Nat.add_sub_cancel]
    unfold sealL
    rw [List.take_append_of_le_length (by rw [xorS_length]; exact Nat.le_refl _), List.take_of_length_le (by rw [xorS_length]; exact Nat.le_refl _)]
  have hd : (sealL k nonce beside b).drop ((sealL k nonce beside b).length - 16) = tagL k nonce beside (xorS k nonce b) := by
    rw [hl, Nat.add_sub_cancel]
    unfold sealL
    have := List.drop_left (l₁ := xorS k nonce b) (l₂ := tagL k nonce beside (xorS k nonce b))
    rw [xorS_length] at this
    exact this
  rw [ht, hd, if_pos ⟨by omega, rfl⟩, xorS_back]
theorem open_short {k nonce beside s : List Nat} (h : s.length < 16) : openL k nonce beside s = none := if_neg (by omega)
/-- Bytes. -/
theorem getD_bytes {l : List Nat} (h : ∀ x ∈ l, x < 256) (i : Nat) : l.getD i 0 < 256 := getD_lt h i
theorem LB_bytes' {f : Nat → Nat} (h : ∀ i, f i < 256) : ∀ x ∈ LB f, x < 256 := fun x hx => by
  obtain ⟨i, _, rfl⟩ := List.mem_map.1 hx
  exact h i
theorem ecL_bytes {k nonce : List Nat} (bk : ∀ x ∈ k, x < 256) (bn : ∀ x ∈ nonce, x < 256) {n : Nat} (hn : n < 65536) : ∀ x ∈ ecL k nonce n, x < 256 :=
  blockF_bytes (keysF_bytes boxL_bytes bk 40) (LB_bytes' fun i => counterF_lt (fun t => getD_lt bn t) hn i) 10
theorem strF_lt {k nonce : List Nat} (bk : ∀ x ∈ k, x < 256) (bn : ∀ x ∈ nonce, x < 256) {i : Nat} (hi : i < 1000000) : strF k nonce i < 256 := getD_lt (ecL_bytes bk bn (by omega)) _
theorem xorS_bytes {k nonce b : List Nat} (bk : ∀ x ∈ k, x < 256) (bn : ∀ x ∈ nonce, x < 256) (bb : ∀ x ∈ b, x < 256) (hb : b.length ≤ 1000000) : ∀ x ∈ xorS k nonce b, x < 256 := fun x hx => by
  obtain ⟨i, hi, rfl⟩ := List.mem_map.1 hx
  have := List.mem_range.1 hi
  exact xor_256 (getD_lt bb i) (strF_lt bk bn (by omega))
theorem hK_lt {k : List Nat} (bk : ∀ x ∈ k, x < 256) (i : Nat) : hK k i < 256 := getD_lt (blockF_bytes (keysF_bytes boxL_bytes bk 40) (LB_bytes' fun _ => by decide) 10) _
theorem bitsL_bytes (n : Nat) : ∀ x ∈ bitsL n, x < 256 := fun x hx => by
  obtain ⟨i, _, rfl⟩ := List.mem_map.1 hx
  exact Nat.mod_lt _ (by decide)
theorem bitsL_length (n : Nat) : (bitsL n).length = 8 := by simp [bitsL]
theorem lensL_length (n m : Nat) : (lensL n m).length = 16 := by unfold lensL; rw [List.length_append, bitsL_length, bitsL_length]
theorem lensL_bytes (n m : Nat) : ∀ x ∈ lensL n m, x < 256 := Bytes.append (bitsL_bytes n) (bitsL_bytes m)
theorem tagY_lt {k beside ct : List Nat} (bk : ∀ x ∈ k, x < 256) (i : Nat) : tagY k beside ct i < 256 :=
  hashF_lt (fun j => hashF_lt (fun j => hashF_lt (fun _ => by decide) (hK_lt bk) _ j) (hK_lt bk) _ j) (hK_lt bk) _ i
theorem tagL_bytes {k nonce beside ct : List Nat} (bk : ∀ x ∈ k, x < 256) (bn : ∀ x ∈ nonce, x < 256) : ∀ x ∈ tagL k nonce beside ct, x < 256 :=
  LB_bytes' fun i => xor_256 (tagY_lt bk i) (getD_lt (ecL_bytes bk bn (by omega)) i)
theorem sealL_bytes {k nonce beside b : List Nat} (bk : ∀ x ∈ k, x < 256) (bn : ∀ x ∈ nonce, x < 256) (bb : ∀ x ∈ b, x < 256) (hb : b.length ≤ 1000000) : ∀ x ∈ sealL k nonce beside b, x < 256 :=
  Bytes.append (xorS_bytes bk bn bb hb) (tagL_bytes bk bn)
theorem hashL_lt {y h : Nat → Nat} {l : List Nat} (hy : ∀ i, y i < 256) (hh : ∀ i, h i < 256) (i : Nat) : hashL y h l i < 256 := hashF_lt hy hh _ i
end Go.Proofs.YtpihgljdbpnehaaDoor
