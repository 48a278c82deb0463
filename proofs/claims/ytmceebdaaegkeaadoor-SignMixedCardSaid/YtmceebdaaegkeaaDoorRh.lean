/- The contract of the reference's Times: the product of two long numbers. -/
import Derived.Test.YtmceebdaaegkeaaDoorRf
namespace Go.Proofs.YtmceebdaaegkeaaDoor
open Go.RowKit

/-- A call hands back a new long number of n parts whose value is v. -/
def RetV (w : World) (n v : Nat) (e : Ending) (w' : World) : Prop := ∃ f, lv f n = v ∧ RetSl w n f e w'

theorem make64 (n : Nat) (hn : n ≤ 4294967296) (w : World) : (Instr.makeSlice 76 (.int .i64 n) (.int .i64 n)).run Tryd.prog w = .ok (.slice (some ⟨w.heap.size, 0, none⟩) n n) (w.alloc (.cells (Iv .u64 ((List.range n).map fun _ => ((0 : Nat) : Int))) 36)) := by
  have h := run_make_row' (P := Tryd.prog) 76 36 (.int .u64 0) 8 Tryd.underlying76 (by kernel_rfl) rfl .i64 .i64 n (by omega) (by omega) w
  have e : madeCells #[Value.int .u64 0] n = Iv .u64 ((List.range n).map fun _ => ((0 : Nat) : Int)) := by
    apply Array.ext
    · simp [size_madeCells, Iv]
    · intro i h1 h2
      simp [madeCells, Nat.mod_one, Iv]
  rw [h, e]

def upd (o : Nat → Nat) (p x : Nat) (j : Nat) : Nat := if j = p then o j + x else o j
theorem lv_upd (o : Nat → Nat) (p x : Nat) : ∀ n, lv (upd o p x) n = lv o n + (if p < n then x * 65536 ^ p else 0)
  | 0 => by simp [lv]
  | n + 1 => by
    simp only [lv]
    rw [lv_upd o p x n]
    unfold upd
    by_cases h : n = p
    · subst h
      rw [if_pos rfl, if_neg (by omega), if_pos (by omega), Nat.add_mul]
      omega
    · rw [if_neg h]
      by_cases h2 : p < n
      · rw [if_pos h2, if_pos (by omega)]; omega
      · rw [if_neg h2, if_neg (by omega)]; omega
theorem upd_set (o : Nat → Nat) (p x n : Nat) : ((List.range n).map fun j => ((o j : Nat) : Int)).set p (((o p + x : Nat)) : Int) = (List.range n).map fun j => ((upd o p x j : Nat) : Int) := by
  apply List.ext_getElem (by simp)
  intro j h1 h2
  simp only [List.getElem_set, List.getElem_map, List.getElem_range, upd]
  by_cases h : p = j
  · rw [if_pos h, if_pos h.symm, h]
  · rw [if_neg h, if_neg (fun e => h e.symm)]

/-- The memory of Times behind I rounds and K of the next. -/
structure TimW (na nb ga gb : Nat) (fa fb : Nat → Nat) (w wr : World) (I K : Nat) (o : Nat → Nat) : Prop where
  a : Sl wr ga na fa
  b : Sl wr gb nb fb
  out : Blk wr w.heap.size 36 (Iv .u64 ((List.range (na + nb)).map fun j => ((o j : Nat) : Int)))
  k : Below w.heap.size w wr
  la : ga < w.heap.size
  lb : gb < w.heap.size
  num : lv o (na + nb) = lv fa I * lv fb nb + fa I * 65536 ^ I * lv fb K
  bd : ∀ j, o j ≤ I * 4294967296 + (if j < I + K then 4294967296 else 0)
theorem TimW.drew {na nb ga gb : Nat} {fa fb : Nat → Nat} {w wr : World} {I K : Nat} {o : Nat → Nat} (h : TimW na nb ga gb fa fb w wr I K o) : TimW na nb ga gb fa fb w wr.drew I K o :=
  ⟨h.a.drew, h.b.drew, h.out, below_drew h.k, h.la, h.lb, h.num, h.bd⟩
theorem part_mul (x y : Nat) (hx : x < 65536) (hy : y < 65536) : x * y ≤ 4294836225 := Nat.mul_le_mul (show x ≤ 65535 by omega) (show y ≤ 65535 by omega)
theorem TimW.step {na nb ga gb : Nat} {fa fb : Nat → Nat} {w wr : World} {I K : Nat} {o : Nat → Nat} (h : TimW na nb ga gb fa fb w wr I K o) (hI : I < na) (hK : K < nb) :
    TimW na nb ga gb fa fb w (wr.setCell ⟨w.heap.size, I + K, none⟩ (.int .u64 (((o (I + K) + fa I * fb K : Nat)) : Int))) I (K + 1) (upd o (I + K) (fa I * fb K)) := by
  have hla := h.la; have hlb := h.lb
  have hm := part_mul (fa I) (fb K) (h.a.lt I) (h.b.lt K)
  refine ⟨h.a.far (by simp; omega) _, h.b.far (by simp; omega) _, ?_, h.k.setCell (by simp) _, h.la, h.lb, ?_, fun j => ?_⟩
  · have := h.out.set (I + K) (.int .u64 (((o (I + K) + fa I * fb K : Nat)) : Int))
    rw [Iv_set, upd_set] at this
    exact this
  · rw [lv_upd, if_pos (by omega), h.num]
    simp only [lv]
    rw [Nat.mul_add, Nat.pow_add]
    have : fa I * fb K * (65536 ^ I * 65536 ^ K) = fa I * 65536 ^ I * (fb K * 65536 ^ K) := by
      rw [Nat.mul_assoc, Nat.mul_assoc, Nat.mul_left_comm (fb K)]
    omega
  · have hb := h.bd j
    unfold upd
    by_cases e : j = I + K
    · rw [if_pos e, if_pos (by omega)]
      rw [if_neg (by omega)] at hb
      omega
    · rw [if_neg e]
      by_cases e2 : j < I + K
      · rw [if_pos (by omega)]
        rw [if_pos e2] at hb
        exact hb
      · rw [if_neg (by omega)]
        rw [if_neg e2] at hb
        exact hb
theorem TimW.next {na nb ga gb : Nat} {fa fb : Nat → Nat} {w wr : World} {I : Nat} {o : Nat → Nat} (h : TimW na nb ga gb fa fb w wr I nb o) : TimW na nb ga gb fa fb w wr (I + 1) 0 o := by
  refine ⟨h.a, h.b, h.out, h.k, h.la, h.lb, ?_, fun j => ?_⟩
  · rw [h.num]
    simp only [lv, Nat.mul_zero, Nat.add_zero, Nat.add_mul]
  · have hb := h.bd j
    have e : (I + 1) * 4294967296 = I * 4294967296 + 4294967296 := by rw [Nat.add_mul, Nat.one_mul]
    rw [e]
    by_cases h1 : j < I + nb
    · rw [if_pos h1] at hb
      exact Nat.le_trans hb (Nat.le_add_right _ _)
    · rw [if_neg h1] at hb
      exact Nat.le_trans hb (by omega)

/-- The carry into part k, and part k. -/
def tc (o : Nat → Nat) : Nat → Nat
  | 0 => 0
  | k + 1 => (tc o k + o k) / 65536
def tF (n : Nat) (o : Nat → Nat) (i : Nat) : Nat := if i < n then (tc o i + o i) % 65536 else 0
theorem tc_le (o : Nat → Nat) (M : Nat) (ho : ∀ j, o j ≤ M) : ∀ k, tc o k ≤ M
  | 0 => by simp [tc]
  | k + 1 => by
    have := tc_le o M ho k
    have := ho k
    unfold tc
    omega
theorem t_num (o : Nat → Nat) (n : Nat) : ∀ k, k ≤ n → lv (tF n o) k + tc o k * 65536 ^ k = lv o k
  | 0, _ => by simp [lv, tc]
  | k + 1, h => by
    have ih := t_num o n k (by omega)
    have e : tF n o k + tc o (k + 1) * 65536 = tc o k + o k := by
      simp only [tF, tc, if_pos (show k < n by omega)]
      omega
    have e2 : tF n o k * 65536 ^ k + tc o (k + 1) * 65536 ^ (k + 1) = tc o k * 65536 ^ k + o k * 65536 ^ k := by
      rw [← Nat.add_mul, ← e, Nat.add_mul, Nat.pow_succ, Nat.mul_assoc, Nat.mul_comm 65536 (65536 ^ k)]
    simp only [lv]
    omega
theorem t_val (o : Nat → Nat) (n V : Nat) (h : lv o n = V) (hV : V < 65536 ^ n) : lv (tF n o) n = V := by
  have h1 := t_num o n n (Nat.le_refl _)
  rw [h] at h1
  rcases Nat.eq_zero_or_pos (tc o n) with h2 | h2
  · rw [h2, Nat.zero_mul] at h1
    exact h1
  · have : 1 * 65536 ^ n ≤ tc o n * 65536 ^ n := Nat.mul_le_mul_right _ h2
    omega


end Go.Proofs.YtmceebdaaegkeaaDoor
/- The walk of the reference's Times. -/
namespace Go.Proofs.YtmceebdaaegkeaaDoor
open Go.RowKit

theorem wrapN64 (a : Nat) (ha : a < 18446744073709551616) : IntKind.u64.wrap (a : Int) = (a : Int) := by rw [IntKind.wrap_u64]; omega

/-- The memory of Times' second half behind k rounds. -/
structure TcW (N g : Nat) (o : Nat → Nat) (w wr : World) (h k : Nat) : Prop where
  out : Blk wr g 36 (Iv .u64 ((List.range N).map fun j => ((o j : Nat) : Int)))
  l : Blk wr h 71 (Iv .u32 (fill N (fun i => ((tF N o i : Nat) : Int)) k))
  k : Below w.heap.size w wr
  gh : g < h
  wg : w.heap.size ≤ g
theorem TcW.step {N g : Nat} {o : Nat → Nat} {w wr : World} {h k : Nat} (F : TcW N g o w wr h k) (hk : k < N) : TcW N g o w (wr.setCell ⟨h, k, none⟩ (.int .u32 ((((tc o k : Nat) : Int) + ((o k : Nat) : Int)) % 65536))) h (k + 1) := by
  have h1 := F.gh; have h2 := F.wg
  refine ⟨F.out.far (by simp; omega) _, ?_, F.k.setCell (by simp; omega) _, F.gh, F.wg⟩
  have e : (((tc o k : Nat) : Int) + ((o k : Nat) : Int)) % 65536 = ((tF N o k : Nat) : Int) := by
    simp only [tF, if_pos hk]
    omega
  rw [e]
  have := F.l.set k (.int .u32 ((tF N o k : Nat) : Int))
  rw [Iv_set, fill_set N (fun i => ((tF N o i : Nat) : Int)) k] at this
  exact this
theorem and16_64 (x : Int) (h0 : 0 ≤ x) (h1 : x < 18446744073709551616) : bits .and .u64 x 65535 = x % 65536 := by
  obtain ⟨n, rfl⟩ := Int.eq_ofNat_of_zero_le h0
  have h := bits_and_u64_nat n 65535 (by omega) (by omega)
  have e : n &&& 65535 = n % 65536 := Nat.and_two_pow_sub_one_eq_mod n 16
  rw [e] at h
  exact h

end Go.Proofs.YtmceebdaaegkeaaDoor
