/- Contracts of the reference's Minus and Sum. The contract of the reference's Sum. The contract of the reference's Key: 32 bytes of a long number. The contract of the reference's Of at the bytes of a key. The contract of the reference's Times: the product of two long numbers. The walk of the reference's Times. Plain arithmetic of the reference's Fold: what stands above 2^255 counts 19 times. The walk of the reference's Fold. A whole row that is read in a region that draws its order: a take under a fact on the memory. -/
import Derived.Test.YtegbnadnodlalaaGreatDoorGFk0GRb
import Derived.Deep.OwnRows
import Derived.Deep.LoopGhost
namespace Go.Proofs.YtegbnadnodlalaaGreatDoor
open Go.RowKit
/-- The memory of Minus behind k rounds. -/
structure MinW (na nb ga gb : Nat) (fa fb : Nat → Nat) (w wr : World) (k : Nat) : Prop where
 a : Sl wr ga na fa
 b : Sl wr gb nb fb
 out : Blk wr w.heap.size 119 (Iv .u32 (fill na (fun i => ((subF na fa fb i : Nat) : Int)) k))
 k : Below w.heap.size w wr
 la : ga < w.heap.size
 lb : gb < w.heap.size
theorem MinW.drewN {na nb ga gb : Nat} {fa fb : Nat → Nat} {w wr : World} {k : Nat} (h : MinW na nb ga gb fa fb w wr k) (n : Nat) : MinW na nb ga gb fa fb w (wr.drewN n) k := ⟨h.a.drewN n, h.b.drewN n, h.out, below_drewN h.k n, h.la, h.lb⟩
theorem Sl.far {w : World} {g n : Nat} {f : Nat → Nat} (h : Sl w g n f) {p : Addr} (hp : g ≠ p.block) (v : Value) : Sl (w.setCell p v) g n f :=
 ⟨fun i hi => (World.cell?_setCell_other w p ⟨g, i, none⟩ v (fun e => hp (by rw [e]))).trans (h.cell i hi), h.lt, h.high, by simpa [World.setCell] using h.blk⟩
theorem MinW.step {na nb ga gb : Nat} {fa fb : Nat → Nat} {w wr : World} {k : Nat} (h : MinW na nb ga gb fa fb w wr k) (hk : k < na) :
  MinW na nb ga gb fa fb w (wr.setCell ⟨w.heap.size, k, none⟩ (.int .u32 (((fa k + 65536 - fb k - brw fa fb k) % 65536 : Nat) : Int))) (k + 1) := by
 have hla := h.la; have hlb := h.lb
 refine ⟨h.a.far (by simp; omega) _, h.b.far (by simp; omega) _, ?_, h.k.setCell (by simp) _, h.la, h.lb⟩
 have e : (((fa k + 65536 - fb k - brw fa fb k) % 65536 : Nat) : Int) = ((subF na fa fb k : Nat) : Int) := by simp [subF, hk]
 rw [e]
 have := h.out.set k (.int .u32 ((subF na fa fb k : Nat) : Int))
 rw [Iv_set, fill_set na (fun i => ((subF na fa fb i : Nat) : Int)) k] at this
 exact this
/-- The carry into part k, and part k of a sum. -/
def cry (fa fb : Nat → Nat) : Nat → Nat
 | 0 => 0
 | k + 1 => (cry fa fb k + fa k + fb k) / 65536
def sumF (n : Nat) (fa fb : Nat → Nat) (i : Nat) : Nat := if i < n then (cry fa fb i + fa i + fb i) % 65536 else 0
end Go.Proofs.YtegbnadnodlalaaGreatDoor
namespace Go.Proofs.YtegbnadnodlalaaGreatDoor
open Go.RowKit
theorem val_int {k : IntKind} {a b : Int} (h : a = b) : Value.int k a = .int k b := by rw [h]
/-- The memory of Sum behind k rounds. -/
structure SumW (na nb ga gb N : Nat) (fa fb : Nat → Nat) (w wr : World) (k : Nat) : Prop where
 a : Sl wr ga na fa
 b : Sl wr gb nb fb
 out : Blk wr w.heap.size 119 (Iv .u32 (fill (N + 1) (fun i => ((sumF (N + 1) fa fb i : Nat) : Int)) k))
 k : Below w.heap.size w wr
 la : ga < w.heap.size
 lb : gb < w.heap.size
theorem SumW.step {na nb ga gb N : Nat} {fa fb : Nat → Nat} {w wr : World} {k : Nat} (h : SumW na nb ga gb N fa fb w wr k) (hk : k < N + 1) :
  SumW na nb ga gb N fa fb w (wr.setCell ⟨w.heap.size, k, none⟩ (.int .u32 ((((cry fa fb k : Nat) : Int) + ((fa k : Nat) : Int) + ((fb k : Nat) : Int)) % 65536))) (k + 1) := by
 have hla := h.la; have hlb := h.lb
 refine ⟨h.a.far (by simp; omega) _, h.b.far (by simp; omega) _, ?_, h.k.setCell (by simp) _, h.la, h.lb⟩
 have e : (((cry fa fb k : Nat) : Int) + ((fa k : Nat) : Int) + ((fb k : Nat) : Int)) % 65536 = ((sumF (N + 1) fa fb k : Nat) : Int) := by
  simp only [sumF, if_pos hk]
  omega
 rw [e]
 have := h.out.set k (.int .u32 ((sumF (N + 1) fa fb k : Nat) : Int))
 rw [Iv_set, fill_set (N + 1) (fun i => ((sumF (N + 1) fa fb i : Nat) : Int)) k] at this
 exact this
end Go.Proofs.YtegbnadnodlalaaGreatDoor
namespace Go.Proofs.YtegbnadnodlalaaGreatDoor
open Go.RowKit
theorem lv_part (f : Nat → Nat) (hf : ∀ i, f i < 65536) : ∀ n i, i < n → lv f n / 65536 ^ i % 65536 = f i
 | 0, i, h => by omega
 | n + 1, i, h => by
  by_cases hi : i < n
  ·
   have ih := lv_part f hf n i hi
   have e : f n * 65536 ^ n = 65536 ^ i * (65536 * (f n * 65536 ^ (n - i - 1))) := by
    have : (65536 : Nat) ^ n = 65536 ^ i * (65536 * 65536 ^ (n - i - 1)) := by
     rw [← Nat.pow_succ', ← Nat.pow_add]
     congr 1
     omega
    rw [this, Nat.mul_left_comm (f n), Nat.mul_left_comm (f n)]
   simp only [lv]
   rw [e, Nat.add_mul_div_left _ _ (Nat.pow_pos (by decide)), Nat.add_mul_mod_self_left]
   exact ih
  ·
   have hin : i = n := by omega
   subst hin
   have h1 := lv_lt f hf i
   simp only [lv]
   rw [Nat.add_mul_div_right _ _ (Nat.pow_pos (by decide)), Nat.div_eq_of_lt h1, Nat.zero_add, Nat.mod_eq_of_lt (hf i)]
theorem lv_part_any (f : Nat → Nat) (hf : ∀ i, f i < 65536) (n : Nat) (hh : ∀ i, n ≤ i → f i = 0) (i : Nat) : lv f n / 65536 ^ i % 65536 = f i := by
 by_cases h : i < n
 · exact lv_part f hf n i h
 · rw [hh i (by omega), Nat.div_eq_of_lt (Nat.lt_of_lt_of_le (lv_lt f hf n) (Nat.pow_le_pow_right (by decide) (by omega)))]
/-- The memory of Key behind k rounds. -/
structure KeyW (n g : Nat) (f : Nat → Nat) (w wr : World) (k : Nat) : Prop where
 a : Sl wr g n f
 res : Blk wr w.heap.size 23 (Iv .u8 (List.replicate 32 0))
 out : Blk wr (w.heap.size + 1) 23 (Iv .u8 (fill 32 (fun i => ((byteAt (lv f n) i : Nat) : Int)) k))
 k : Below w.heap.size w wr
 la : g < w.heap.size
theorem KeyW.step {n g : Nat} {f : Nat → Nat} {w wr : World} {k : Nat} (h : KeyW n g f w wr k) : KeyW n g f w (wr.setCell ⟨w.heap.size + 1, k, none⟩ (.int .u8 ((byteAt (lv f n) k : Nat) : Int))) (k + 1) := by
 have hla := h.la
 refine ⟨h.a.far (by simp; omega) _, h.res.far (by simp) _, ?_, h.k.setCell (by simp) _, h.la⟩
 have := h.out.set k (.int .u8 ((byteAt (lv f n) k : Nat) : Int))
 rw [Iv_set, fill_set 32 (fun i => ((byteAt (lv f n) i : Nat) : Int)) k] at this
 exact this
end Go.Proofs.YtegbnadnodlalaaGreatDoor
namespace Go.Proofs.YtegbnadnodlalaaGreatDoor
open Go.RowKit
/-- Part j of a number. -/
def dAt (v j : Nat) : Nat := v / 65536 ^ j % 65536
theorem dAt_lt (v j : Nat) : dAt v j < 65536 := Nat.mod_lt _ (by decide)
theorem pow_pair (k : Nat) : (256 : Nat) ^ k = 65536 ^ (k / 2) * 2 ^ (8 * (k % 2)) := by
 have h1 : (65536 : Nat) ^ (k / 2) = 2 ^ (16 * (k / 2)) := by rw [Nat.pow_mul]
 have h2 : (256 : Nat) ^ k = 2 ^ (8 * k) := by rw [Nat.pow_mul]
 rw [h1, h2, ← Nat.pow_add]
 congr 1
 omega
theorem d_same (v b k j : Nat) (hj : j < k / 2) : dAt (v + b * 256 ^ k) j = dAt v j := by
 unfold dAt
 have e2 : b * 256 ^ k = 65536 ^ j * (65536 * (b * (65536 ^ (k / 2 - j - 1) * 2 ^ (8 * (k % 2))))) := by
  rw [pow_pair]
  have : (65536 : Nat) ^ (k / 2) = 65536 ^ j * (65536 * 65536 ^ (k / 2 - j - 1)) := by
   rw [← Nat.pow_succ', ← Nat.pow_add]
   congr 1
   omega
  rw [this]
  simp only [Nat.mul_assoc, Nat.mul_left_comm b]
 rw [e2, Nat.add_mul_div_left _ _ (Nat.pow_pos (by decide)), Nat.add_mul_mod_self_left]
theorem d_high (v k j : Nat) (hv : v < 256 ^ k) (hj : k ≤ 2 * j) : dAt v j = 0 := by
 unfold dAt
 have : v < 65536 ^ j := Nat.lt_of_lt_of_le hv (by
  have : (65536 : Nat) ^ j = 256 ^ (2 * j) := by rw [Nat.pow_mul]
  rw [this]
  exact Nat.pow_le_pow_right (by decide) hj)
 rw [Nat.div_eq_of_lt this]
theorem d_add (v b k : Nat) (hv : v < 256 ^ k) (hb : b < 256) : dAt (v + b * 256 ^ k) (k / 2) = dAt v (k / 2) + b * 2 ^ (8 * (k % 2)) ∧ dAt v (k / 2) < 2 ^ (8 * (k % 2)) := by
 unfold dAt
 have e2 : b * 256 ^ k = 65536 ^ (k / 2) * (b * 2 ^ (8 * (k % 2))) := by rw [pow_pair, Nat.mul_left_comm]
 have hq : v / 65536 ^ (k / 2) < 2 ^ (8 * (k % 2)) := by
  rw [Nat.div_lt_iff_lt_mul (Nat.pow_pos (by decide)), Nat.mul_comm, ← pow_pair]
  exact hv
 have hp : 2 ^ (8 * (k % 2)) * 256 ≤ 65536 := by
  rcases Nat.mod_two_eq_zero_or_one k with h | h <;> rw [h] <;> decide
 have hbm : b * 2 ^ (8 * (k % 2)) ≤ 255 * 2 ^ (8 * (k % 2)) := Nat.mul_le_mul_right _ (by omega)
 rw [e2, Nat.add_mul_div_left _ _ (Nat.pow_pos (by decide)), Nat.mod_eq_of_lt (a := v / 65536 ^ (k / 2)) (by omega), Nat.mod_eq_of_lt (by omega)]
 exact ⟨rfl, hq⟩
theorem wraps_u32 (n : Int) (h₀ : 0 ≤ n) (h₁ : n < 2 ^ 32) : IntKind.u32.wrap n = n := by rw [IntKind.wrap_u32]; omega
theorem or32 (i : Nat) (x y : Int) (hx0 : 0 ≤ x) (hx : x % 2 ^ i = 0) (hx1 : x < 2 ^ 32) (h0 : 0 ≤ y) (h1 : y < 2 ^ i) (hi : (2 : Int) ^ i ≤ 2 ^ 32) : bits .or .u32 x y = x + y :=
 bits_join .u32 32 (by decide) wraps_u32 i x y hx0 hx hx1 h0 h1 (by omega)
theorem or_comm32 (x y : Int) : bits .or .u32 x y = bits .or .u32 y x := by simp only [bits, BitVec.or_comm]
theorem or_byte32 (v b k : Nat) (hv : v < 256 ^ k) (hb : b < 256) :
  bits .or .u32 ((dAt v (k / 2) : Nat) : Int) (IntKind.u32.wrap ((b : Int) * 2 ^ (8 * (k % 2)))) = ((dAt (v + b * 256 ^ k) (k / 2) : Nat) : Int) := by
 obtain ⟨h1, h2⟩ := d_add v b k hv hb
 have hbm : b * 2 ^ (8 * (k % 2)) ≤ 255 * 2 ^ (8 * (k % 2)) := Nat.mul_le_mul_right _ (by omega)
 have hp : 2 ^ (8 * (k % 2)) * 256 ≤ 65536 := by
  rcases Nat.mod_two_eq_zero_or_one k with h | h <;> rw [h] <;> decide
 have ec : (b : Int) * 2 ^ (8 * (k % 2)) = ((b * 2 ^ (8 * (k % 2)) : Nat) : Int) := by
  rw [Int.natCast_mul, Int.natCast_pow]
  rfl
 have ep : (2 : Int) ^ (8 * (k % 2)) = ((2 ^ (8 * (k % 2)) : Nat) : Int) := by
  rw [Int.natCast_pow]
  rfl
 rw [ec, wraps_u32 _ (by omega) (by omega), or_comm32, or32 (8 * (k % 2)) _ _ (by omega) (by
  rw [ep, ← Int.natCast_emod, Nat.mul_mod_left]; rfl) (by omega) (by omega) (by rw [ep]; omega) (by rw [ep]; omega), h1]
 omega
/-- The memory of Of behind k rounds. -/
structure ROfW (gb : Nat) (t : TypeId) (l : List Int) (f : Nat → Nat) (w wr : World) (k : Nat) : Prop where
 key : Blk wr gb t (Iv .u8 l)
 out : Blk wr w.heap.size 119 (Iv .u32 ((List.range 16).map fun j => ((dAt (leTo f k) j : Nat) : Int)))
 k : Below w.heap.size w wr
 la : gb < w.heap.size
theorem ROfW.drew {gb : Nat} {t : TypeId} {l : List Int} {f : Nat → Nat} {w wr : World} {k : Nat} (h : ROfW gb t l f w wr k) : ROfW gb t l f w wr.drew k := ⟨h.key, h.out, below_drew h.k, h.la⟩
theorem ROfW.step {gb : Nat} {t : TypeId} {l : List Int} {f : Nat → Nat} {w wr : World} {k : Nat} (h : ROfW gb t l f w wr k) (hf : ∀ i, f i < 256) :
  ROfW gb t l f w (wr.setCell ⟨w.heap.size, k / 2, none⟩ (.int .u32 (bits .or .u32 ((dAt (leTo f k) (k / 2) : Nat) : Int) (IntKind.u32.wrap (((f k : Nat) : Int) * 2 ^ (8 * (k % 2))))))) (k + 1) := by
 have hla := h.la
 rw [or_byte32 _ _ k (leTo_lt f hf k) (hf k)]
 refine ⟨h.key.far (by simp; omega) _, ?_, h.k.setCell (by simp) _, h.la⟩
 have hs := h.out.set (k / 2) (.int .u32 ((dAt (leTo f k + f k * 256 ^ k) (k / 2) : Nat) : Int))
 rw [Iv_set] at hs
 have e : ((List.range 16).map fun j => ((dAt (leTo f k) j : Nat) : Int)).set (k / 2) ((dAt (leTo f k + f k * 256 ^ k) (k / 2) : Nat) : Int) = (List.range 16).map fun j => ((dAt (leTo f (k + 1)) j : Nat) : Int) := by
  apply List.ext_getElem (by simp)
  intro j h1 h2
  simp only [List.length_set, List.length_map, List.length_range] at h1
  simp only [List.getElem_set, List.getElem_map, List.getElem_range, leTo]
  by_cases hj : k / 2 = j
  · rw [if_pos hj, hj]
  ·
   rw [if_neg hj]
   by_cases hj2 : j < k / 2
   · rw [d_same _ _ _ _ hj2]
   ·
    rw [d_high _ k j (leTo_lt f hf k) (by omega)]
    have := leTo_lt f hf (k + 1)
    rw [show leTo f k + f k * 256 ^ k = leTo f (k + 1) from rfl, d_high _ (k + 1) j this (by omega)]
 rw [e] at hs
 exact hs
end Go.Proofs.YtegbnadnodlalaaGreatDoor
namespace Go.Proofs.YtegbnadnodlalaaGreatDoor
open Go.RowKit
def upd (o : Nat → Nat) (p x : Nat) (j : Nat) : Nat := if j = p then o j + x else o j
theorem lv_upd (o : Nat → Nat) (p x : Nat) : ∀ n, lv (upd o p x) n = lv o n + (if p < n then x * 65536 ^ p else 0)
 | 0 => by simp [lv]
 | n + 1 => by
  simp only [lv]
  rw [lv_upd o p x n]
  unfold upd
  by_cases h : n = p
  ·
   subst h
   rw [if_pos rfl, if_neg (by omega), if_pos (by omega), Nat.add_mul]
   omega
  ·
   rw [if_neg h]
   by_cases h2 : p < n
   · rw [if_pos h2, if_pos (by omega)]; omega
   · rw [if_neg h2, if_neg (by omega)]; omega
theorem upd_set (o : Nat → Nat) (p x n : Nat) : ((List.range n).map fun j => ((o j : Nat) : Int)).set p (((o p + x : Nat)) : Int) = (List.range n).map fun j => ((upd o p x j : Nat) : Int) := by
 apply List.ext_getElem (by simp)
 intro j h1 h2
 simp only [List.getElem_set, List.getElem_map, List.getElem_range, upd]
 by_cases h : p = j
 · rw [if_pos h, if_pos h.symm, h]
 · rw [if_neg h, if_neg (fun e => h e.symm)]
/-- The memory of Times behind I rounds and K of the next. -/
structure TimW (na nb ga gb : Nat) (fa fb : Nat → Nat) (w wr : World) (I K : Nat) (o : Nat → Nat) : Prop where
 a : Sl wr ga na fa
 b : Sl wr gb nb fb
 out : Blk wr w.heap.size 26 (Iv .u64 ((List.range (na + nb)).map fun j => ((o j : Nat) : Int)))
 k : Below w.heap.size w wr
 la : ga < w.heap.size
 lb : gb < w.heap.size
 num : lv o (na + nb) = lv fa I * lv fb nb + fa I * 65536 ^ I * lv fb K
 bd : ∀ j, o j ≤ I * 4294967296 + (if j < I + K then 4294967296 else 0)
theorem TimW.drew {na nb ga gb : Nat} {fa fb : Nat → Nat} {w wr : World} {I K : Nat} {o : Nat → Nat} (h : TimW na nb ga gb fa fb w wr I K o) : TimW na nb ga gb fa fb w wr.drew I K o :=
 ⟨h.a.drew, h.b.drew, h.out, below_drew h.k, h.la, h.lb, h.num, h.bd⟩
theorem part_mul (x y : Nat) (hx : x < 65536) (hy : y < 65536) : x * y ≤ 4294836225 := Nat.mul_le_mul (show x ≤ 65535 by omega) (show y ≤ 65535 by omega)
theorem TimW.step {na nb ga gb : Nat} {fa fb : Nat → Nat} {w wr : World} {I K : Nat} {o : Nat → Nat} (h : TimW na nb ga gb fa fb w wr I K o) (hI : I < na) (hK : K < nb) :
  TimW na nb ga gb fa fb w (wr.setCell ⟨w.heap.size, I + K, none⟩ (.int .u64 (((o (I + K) + fa I * fb K : Nat)) : Int))) I (K + 1) (upd o (I + K) (fa I * fb K)) := by
 have hla := h.la; have hlb := h.lb
 have hm := part_mul (fa I) (fb K) (h.a.lt I) (h.b.lt K)
 refine ⟨h.a.far (by simp; omega) _, h.b.far (by simp; omega) _, ?_, h.k.setCell (by simp) _, h.la, h.lb, ?_, fun j => ?_⟩
 ·
  have := h.out.set (I + K) (.int .u64 (((o (I + K) + fa I * fb K : Nat)) : Int))
  rw [Iv_set, upd_set] at this
  exact this
 ·
  rw [lv_upd, if_pos (by omega), h.num]
  simp only [lv]
  rw [Nat.mul_add, Nat.pow_add]
  have : fa I * fb K * (65536 ^ I * 65536 ^ K) = fa I * 65536 ^ I * (fb K * 65536 ^ K) := by
   rw [Nat.mul_assoc, Nat.mul_assoc, Nat.mul_left_comm (fb K)]
  omega
 ·
  have hb := h.bd j
  unfold upd
  by_cases e : j = I + K
  ·
   rw [if_pos e, if_pos (by omega)]
   rw [if_neg (by omega)] at hb
   omega
  ·
   rw [if_neg e]
   by_cases e2 : j < I + K
   ·
    rw [if_pos (by omega)]
    rw [if_pos e2] at hb
    exact hb
   ·
    rw [if_neg (by omega)]
    rw [if_neg e2] at hb
    exact hb
theorem TimW.next {na nb ga gb : Nat} {fa fb : Nat → Nat} {w wr : World} {I : Nat} {o : Nat → Nat} (h : TimW na nb ga gb fa fb w wr I nb o) : TimW na nb ga gb fa fb w wr (I + 1) 0 o := by
 refine ⟨h.a, h.b, h.out, h.k, h.la, h.lb, ?_, fun j => ?_⟩
 ·
  rw [h.num]
  simp only [lv, Nat.mul_zero, Nat.add_zero, Nat.add_mul]
 ·
  have hb := h.bd j
  have e : (I + 1) * 4294967296 = I * 4294967296 + 4294967296 := by rw [Nat.add_mul, Nat.one_mul]
  rw [e]
  by_cases h1 : j < I + nb
  ·
   rw [if_pos h1] at hb
   exact Nat.le_trans hb (Nat.le_add_right _ _)
  ·
   rw [if_neg h1] at hb
   exact Nat.le_trans hb (by omega)
/-- The carry into part k, and part k. -/
def tc (o : Nat → Nat) : Nat → Nat
 | 0 => 0
 | k + 1 => (tc o k + o k) / 65536
def tF (n : Nat) (o : Nat → Nat) (i : Nat) : Nat := if i < n then (tc o i + o i) % 65536 else 0
end Go.Proofs.YtegbnadnodlalaaGreatDoor
namespace Go.Proofs.YtegbnadnodlalaaGreatDoor
open Go.RowKit
/-- The memory of Times' second half behind k rounds. -/
structure TcW (N g : Nat) (o : Nat → Nat) (w wr : World) (h k : Nat) : Prop where
 out : Blk wr g 26 (Iv .u64 ((List.range N).map fun j => ((o j : Nat) : Int)))
 l : Blk wr h 119 (Iv .u32 (fill N (fun i => ((tF N o i : Nat) : Int)) k))
 k : Below w.heap.size w wr
 gh : g < h
 wg : w.heap.size ≤ g
theorem TcW.step {N g : Nat} {o : Nat → Nat} {w wr : World} {h k : Nat} (F : TcW N g o w wr h k) (hk : k < N) : TcW N g o w (wr.setCell ⟨h, k, none⟩ (.int .u32 ((((tc o k : Nat) : Int) + ((o k : Nat) : Int)) % 65536))) h (k + 1) := by
 have h1 := F.gh; have h2 := F.wg
 refine ⟨F.out.far (by simp; omega) _, ?_, F.k.setCell (by simp; omega) _, F.gh, F.wg⟩
 have e : (((tc o k : Nat) : Int) + ((o k : Nat) : Int)) % 65536 = ((tF N o k : Nat) : Int) := by
  simp only [tF, if_pos hk]
  omega
 rw [e]
 have := F.l.set k (.int .u32 ((tF N o k : Nat) : Int))
 rw [Iv_set, fill_set N (fun i => ((tF N o i : Nat) : Int)) k] at this
 exact this
end Go.Proofs.YtegbnadnodlalaaGreatDoor
namespace Go.Proofs.YtegbnadnodlalaaGreatDoor
open Go.RowKit
theorem big_div (v j : Nat) : v / 57896044618658097711785492504343953926634992332820282019728792003956564819968 / 65536 ^ j = v / 65536 ^ (j + 15) / 32768 := by
 rw [Nat.div_div_eq_div_mul, Nat.div_div_eq_div_mul, Nat.pow_add]
 congr 1
 rw [Nat.mul_comm, Nat.mul_assoc]
theorem hi_part (v j : Nat) : dAt (v / 57896044618658097711785492504343953926634992332820282019728792003956564819968) j = dAt v (j + 15) / 32768 + dAt v (j + 16) * 2 % 65536 := by
 have e : v / 65536 ^ (j + 16) = v / 65536 ^ (j + 15) / 65536 := by rw [Nat.div_div_eq_div_mul, ← Nat.pow_succ]
 unfold dAt
 rw [big_div, e]
 generalize v / 65536 ^ (j + 15) = x
 omega
theorem lo_part (v i : Nat) (hi : i < 16) : dAt (v % 57896044618658097711785492504343953926634992332820282019728792003956564819968) i = if i = 15 then dAt v 15 % 32768 else dAt v i := by
 unfold dAt
 have hp : (57896044618658097711785492504343953926634992332820282019728792003956564819968 : Nat) = 65536 ^ i * (65536 ^ (15 - i) * 32768) := by
  rw [← Nat.mul_assoc, ← Nat.pow_add, show i + (15 - i) = 15 by omega]
 rw [hp, Nat.mod_mul_right_div_self]
 by_cases h : i = 15
 ·
  subst h
  rw [if_pos rfl, Nat.sub_self, Nat.pow_zero, Nat.one_mul]
  omega
 ·
  rw [if_neg h]
  have hd : (65536 : Nat) ∣ 65536 ^ (15 - i) * 32768 := by
   rw [show 15 - i = (14 - i) + 1 by omega, Nat.pow_succ]
   exact Nat.dvd_trans (Nat.dvd_mul_left 65536 _) (Nat.dvd_mul_right _ _)
  rw [Nat.mod_mod_of_dvd _ hd]
/-- The high part behind k rounds. -/
def hk (fa : Nat → Nat) (k j : Nat) : Nat := (if j + 15 < k then fa (j + 15) / 32768 else 0) + (if j + 16 < k then fa (j + 16) * 2 % 65536 else 0)
def put (o : Nat → Nat) (p x : Nat) (j : Nat) : Nat := if j = p then x else o j
theorem put_set (o : Nat → Nat) (p x n : Nat) : ((List.range n).map fun j => ((o j : Nat) : Int)).set p ((x : Nat) : Int) = (List.range n).map fun j => ((put o p x j : Nat) : Int) := by
 apply List.ext_getElem (by simp)
 intro j h1 h2
 simp only [List.getElem_set, List.getElem_map, List.getElem_range, put]
 by_cases h : p = j
 · rw [if_pos h, if_pos h.symm]
 · rw [if_neg h, if_neg (fun e => h e.symm)]
theorem hk_low (fa : Nat → Nat) (k : Nat) (h : k < 15) : hk fa (k + 1) = hk fa k := by
 funext j
 unfold hk
 rw [if_neg (by omega), if_neg (by omega), if_neg (by omega), if_neg (by omega)]
/-- The high part, when all rounds are done. -/
theorem hk_done (fa : Nat → Nat) (hfa : ∀ i, fa i < 65536) (n : Nat) (hh : ∀ i, n ≤ i → fa i = 0) : hk fa n = dAt (lv fa n / 57896044618658097711785492504343953926634992332820282019728792003956564819968) := by
 funext j
 rw [hi_part]
 have e : ∀ i, dAt (lv fa n) i = fa i := fun i => lv_part_any fa hfa n hh i
 rw [e, e]
 unfold hk
 by_cases h1 : j + 15 < n
 ·
  rw [if_pos h1]
  by_cases h2 : j + 16 < n
  · rw [if_pos h2]
  · rw [if_neg h2, hh (j + 16) (by omega)]
 · rw [if_neg h1, if_neg (by omega), hh (j + 15) (by omega), hh (j + 16) (by omega)]
end Go.Proofs.YtegbnadnodlalaaGreatDoor
namespace Go.Proofs.YtegbnadnodlalaaGreatDoor
open Go.RowKit
/-- The memory of Fold's round behind k parts: W the world in which the round's two lists were made. -/
structure FolW (ga n : Nat) (f : Nat → Nat) (h : Nat) (w wr : World) (k : Nat) : Prop where
 a : Sl wr ga n f
 lo : Blk wr h 119 (Iv .u32 (fill 16 (fun i => ((f i : Nat) : Int)) k))
 hi : Blk wr (h + 1) 119 (Iv .u32 ((List.range n).map fun j => ((hk f k j : Nat) : Int)))
 k : Below w.heap.size w wr
 la : ga < h
 lw : w.heap.size ≤ h
theorem FolW.drew {ga n : Nat} {f : Nat → Nat} {h : Nat} {w wr : World} {k : Nat} (F : FolW ga n f h w wr k) : FolW ga n f h w wr.drew k := ⟨F.a.drew, F.lo, F.hi, below_drew F.k, F.la, F.lw⟩
theorem FolW.low {ga n : Nat} {f : Nat → Nat} {h : Nat} {w wr : World} {k : Nat} (F : FolW ga n f h w wr k) (hlt : k < 15) : FolW ga n f h w (wr.setCell ⟨h, k, none⟩ (.int .u32 ((f k : Nat) : Int))) (k + 1) := by
 have h1 := F.la; have h2 := F.lw
 refine ⟨F.a.far (by simp; omega) _, ?_, ?_, F.k.setCell (by simp; omega) _, F.la, F.lw⟩
 ·
  have := F.lo.set k (.int .u32 ((f k : Nat) : Int))
  rw [Iv_set, fill_set 16 (fun i => ((f i : Nat) : Int)) k] at this
  exact this
 ·
  rw [hk_low f k hlt]
  exact F.hi.far (by simp) _
/-- Behind the low part's store at k = 15, and at k above: only the high part is yet to be written. -/
structure FolX (ga n : Nat) (f : Nat → Nat) (h : Nat) (w wr : World) (k : Nat) (o : Nat → Nat) : Prop where
 a : Sl wr ga n f
 lo : Blk wr h 119 (Iv .u32 (fill 16 (fun i => ((f i : Nat) : Int)) (k + 1)))
 hi : Blk wr (h + 1) 119 (Iv .u32 ((List.range n).map fun j => ((o j : Nat) : Int)))
 k : Below w.heap.size w wr
 la : ga < h
 lw : w.heap.size ≤ h
theorem FolX.drew {ga n : Nat} {f : Nat → Nat} {h : Nat} {w wr : World} {k : Nat} {o : Nat → Nat} (F : FolX ga n f h w wr k o) : FolX ga n f h w wr.drew k o := ⟨F.a.drew, F.lo, F.hi, below_drew F.k, F.la, F.lw⟩
theorem FolX.put {ga n : Nat} {f : Nat → Nat} {h : Nat} {w wr : World} {k : Nat} {o : Nat → Nat} (F : FolX ga n f h w wr k o) (p x : Nat) : FolX ga n f h w (wr.setCell ⟨h + 1, p, none⟩ (.int .u32 ((x : Nat) : Int))) k (put o p x) := by
 have h1 := F.la; have h2 := F.lw
 refine ⟨F.a.far (by simp; omega) _, F.lo.far (by simp) _, ?_, F.k.setCell (by simp; omega) _, F.la, F.lw⟩
 have := F.hi.set p (.int .u32 ((x : Nat) : Int))
 rw [Iv_set, put_set] at this
 exact this
theorem FolX.done {ga n : Nat} {f : Nat → Nat} {h : Nat} {w wr : World} {k : Nat} {o : Nat → Nat} (F : FolX ga n f h w wr k o) (ho : o = hk f (k + 1)) : FolW ga n f h w wr (k + 1) :=
 ⟨F.a, F.lo, ho ▸ F.hi, F.k, F.la, F.lw⟩
theorem fill_all (f : Nat → Nat) (n : Nat) (hh : ∀ i, n ≤ i → f i = 0) : fill 16 (fun i => ((f i : Nat) : Int)) n = (List.range 16).map fun i => ((f i : Nat) : Int) := by
 unfold fill
 apply List.map_congr_left
 intro i _
 by_cases h : i < n
 · rw [if_pos h]
 ·
  rw [if_neg h, hh i (by omega)]
  rfl
theorem low_set (f : Nat → Nat) (hf : ∀ i, f i < 65536) (n : Nat) (hh : ∀ i, n ≤ i → f i = 0) :
  ((List.range 16).map fun i => ((f i : Nat) : Int)).set 15 (((f 15 : Nat) : Int) % 32768) = (List.range 16).map fun i => ((dAt (lv f n % 57896044618658097711785492504343953926634992332820282019728792003956564819968) i : Nat) : Int) := by
 apply List.ext_getElem (by simp)
 intro j h1 h2
 have hj : j < 16 := by simpa using h2
 simp only [List.getElem_set, List.getElem_map, List.getElem_range]
 rw [lo_part _ _ hj]
 have e : ∀ i, dAt (lv f n) i = f i := fun i => lv_part_any f hf n hh i
 rw [e, e]
 by_cases h : 15 = j
 ·
  rw [if_pos h, if_pos h.symm]
  omega
 · rw [if_neg h, if_neg (fun x => h x.symm)]
/-- No part from m on. -/
structure ZeroUp (f : Nat → Nat) (m : Nat) : Prop where
 z : ∀ j, m ≤ j → f j = 0
theorem ZeroUp.down {f : Nat → Nat} {m : Nat} (h : ZeroUp f (m + 1)) (h0 : f m = 0) : ZeroUp f m := ⟨fun j hj => by
 by_cases e : j = m
 · rw [e, h0]
 · exact h.z j (by omega)⟩
/-- Both lists of Fold's round, done. -/
structure FolY (n : Nat) (lo hi : Nat → Nat) (h : Nat) (w wr : World) : Prop where
 lo : Sl wr h 16 lo
 hi : Sl wr (h + 1) n hi
 k : Below w.heap.size w wr
 lw : w.heap.size ≤ h
theorem FolW.fin {ga n : Nat} {f : Nat → Nat} {h : Nat} {w wr : World} (F : FolW ga n f h w wr n) : FolY n (dAt (lv f n % 57896044618658097711785492504343953926634992332820282019728792003956564819968)) (dAt (lv f n / 57896044618658097711785492504343953926634992332820282019728792003956564819968)) h w (wr.setCell ⟨h, 15, none⟩ (.int .u32 (((f 15 : Nat) : Int) % 32768))) := by
 have h1 := F.la; have h2 := F.lw
 have hf := F.a.lt; have hh := F.a.high
 refine ⟨Sl.of_blk (t := 119) ?_ (dAt_lt _) (fun i hi => ?_), Sl.of_blk (t := 119) ?_ (dAt_lt _) (fun i hi => ?_), F.k.setCell (by simp; omega) _, F.lw⟩
 ·
  have := F.lo.set 15 (.int .u32 (((f 15 : Nat) : Int) % 32768))
  rw [Iv_set, fill_all f n hh, low_set f hf n hh] at this
  exact this
 ·
  unfold dAt
  rw [Nat.div_eq_of_lt]
  exact Nat.lt_of_lt_of_le (Nat.mod_lt _ (by decide)) (Nat.le_trans (by decide) (Nat.pow_le_pow_right (by decide) hi))
 ·
  have := F.hi.far (p := ⟨h, 15, none⟩) (by simp) (.int .u32 (((f 15 : Nat) : Int) % 32768))
  rw [hk_done f hf n hh] at this
  exact this
 ·
  rw [← hk_done f hf n hh]
  unfold hk
  rw [if_neg (by omega), if_neg (by omega)]
end Go.Proofs.YtegbnadnodlalaaGreatDoor
namespace Go.Proofs.YtegbnadnodlalaaGreatDoor
open Go.RowKit
/-- The same, of an operation behind a guard that holds. -/
theorem yieldsIf_row_wanted {P : Program} {ops : Array Oper} {S : World → Prop} {o : Oper} {a : Act} (hgd : Region.wanted o (yielded ops a.tmps) = true) (ty : TypeId) (x : Operand) (ho : o.op = .load ty x) (g : Nat) (hx : a.eval x = .pointer (some ⟨g, 0, none⟩))
  (t : TypeId) (cs : Array Value) (d : TypeDesc) (hS : ∀ w, S w → Blk w g t cs) (hu : P.underlying ty = some d) (hd : (match d with | .struct _ | .array _ _ => true | _ => false) = true) (hi : (P.info? ty).map (·.size) = some cs.size) :
  YieldsIf P ops S o (.agg cs) a := by
 refine Or.inl ⟨hgd, fun w hw => ?_⟩
 simp only [execOp, ho, hx, Instr.loadAt, Instr.sureAddr, Sem.run_bind, Sem.run_pure, Result.andThen_ok, run_loadVar_row w g t ty cs (0, 0) d (hS w hw) hu hd hi]
end Go.Proofs.YtegbnadnodlalaaGreatDoor
