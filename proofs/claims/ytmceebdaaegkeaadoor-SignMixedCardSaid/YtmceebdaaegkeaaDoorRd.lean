/- Contracts of the reference's Minus and Sum. -/
import Derived.Test.YtmceebdaaegkeaaDoorRb
import Derived.Deep.OwnRows
namespace Go.Proofs.YtmceebdaaegkeaaDoor
open Go.RowKit

theorem fill_rep (k : IntKind) (n : Nat) (f : Nat → Nat → Int) (i : Nat) : Iv k (fill n (f i) 0) = Array.replicate n (.int k 0) := by
  have : fill n (f i) 0 = List.replicate n 0 := by
    apply List.ext_getElem (by simp [fill])
    intro j h1 h2
    simp [fill]
  rw [this]
  simp [Iv]
theorem make32 (n : Nat) (hn : n ≤ 4294967296) (g : Nat → Int) (w : World) : (Instr.makeSlice 48 (.int .i64 n) (.int .i64 n)).run Tryd.prog w = .ok (.slice (some ⟨w.heap.size, 0, none⟩) n n) (w.alloc (.cells (Iv .u32 (fill n g 0)) 71)) := by
  have h := run_make_row' (P := Tryd.prog) 48 71 (.int .u32 0) 4 Tryd.underlying48 (by kernel_rfl) rfl .i64 .i64 n (by omega) (by omega) w
  have e : madeCells #[Value.int .u32 0] n = Array.replicate n (.int .u32 0) := by
    apply Array.ext
    · simp [size_madeCells]
    · intro i h1 h2
      simp [madeCells, Nat.mod_one]
  rw [h, fill_rep .u32 n (fun _ => g) 0, e]

theorem sub_part (a b c : Nat) (ha : a < 65536) (hb : b < 65536) (hc : c ≤ 1) :
    bits .and .u32 (((a : Int) - (b : Int) - (c : Int)) % 4294967296) 65535 = (((a + 65536 - b - c) % 65536 : Nat) : Int) ∧
    ((a : Int) - (b : Int) - (c : Int)) % 4294967296 / 2147483648 = ((if a < b + c then 1 else 0 : Nat) : Int) := by
  constructor
  · rw [and16 _ (by omega) (by omega)]; omega
  · split <;> omega

/-- The memory of Minus behind k rounds. -/
structure MinW (na nb ga gb : Nat) (fa fb : Nat → Nat) (w wr : World) (k : Nat) : Prop where
  a : Sl wr ga na fa
  b : Sl wr gb nb fb
  out : Blk wr w.heap.size 71 (Iv .u32 (fill na (fun i => ((subF na fa fb i : Nat) : Int)) k))
  k : Below w.heap.size w wr
  la : ga < w.heap.size
  lb : gb < w.heap.size
theorem MinW.drewN {na nb ga gb : Nat} {fa fb : Nat → Nat} {w wr : World} {k : Nat} (h : MinW na nb ga gb fa fb w wr k) (n : Nat) : MinW na nb ga gb fa fb w (wr.drewN n) k := ⟨h.a.drewN n, h.b.drewN n, h.out, below_drewN h.k n, h.la, h.lb⟩
theorem Sl.far {w : World} {g n : Nat} {f : Nat → Nat} (h : Sl w g n f) {p : Addr} (hp : g ≠ p.block) (v : Value) : Sl (w.setCell p v) g n f :=
  ⟨fun i hi => (World.cell?_setCell_other w p ⟨g, i, none⟩ v (fun e => hp (by rw [e]))).trans (h.cell i hi), h.lt, h.high, by simpa [World.setCell] using h.blk⟩
theorem MinW.step {na nb ga gb : Nat} {fa fb : Nat → Nat} {w wr : World} {k : Nat} (h : MinW na nb ga gb fa fb w wr k) (hk : k < na) :
    MinW na nb ga gb fa fb w (wr.setCell ⟨w.heap.size, k, none⟩ (.int .u32 (((fa k + 65536 - fb k - brw fa fb k) % 65536 : Nat) : Int))) (k + 1) := by
  have hla := h.la; have hlb := h.lb
  refine ⟨h.a.far (by simp; omega) _, h.b.far (by simp; omega) _, ?_, h.k.setCell (by simp) _, h.la, h.lb⟩
  have e : (((fa k + 65536 - fb k - brw fa fb k) % 65536 : Nat) : Int) = ((subF na fa fb k : Nat) : Int) := by simp [subF, hk]
  rw [e]
  have := h.out.set k (.int .u32 ((subF na fa fb k : Nat) : Int))
  rw [Iv_set, fill_set na (fun i => ((subF na fa fb i : Nat) : Int)) k] at this
  exact this

set_option maxHeartbeats 2000000 in
set_option maxRecDepth 100000 in
theorem minus_any (ga na ca gb nb cb : Nat) (fa fb : Nat → Nat) (w : World) (ha : Sl w ga na fa) (hb : Sl w gb nb fb) (hna : na ≤ 4294967296) :
    Calls Tryd.prog 42 #[SlV ga na ca, SlV gb nb cb] w (RetSl w na (subF na fa fb)) := by
  have hmk := make32 na hna (fun i => ((subF na fa fb i : Nat) : Int))
  unfold SlV
  go_enter Tryd.func42, Tryd.ntmps42
  go_wp2
  generalize hW : World.alloc w _ = W
  have F0 : MinW na nb ga gb fa fb w W 0 := by
    subst hW
    exact ⟨ha.below ((Below.refl _ _).alloc (Nat.le_refl _) _), hb.below ((Below.refl _ _).alloc (Nat.le_refl _) _), Blk.new _ _ _, (Below.refl _ _).alloc (Nat.le_refl _) _, ha.blk, hb.blk⟩
  clear hW hmk
  go_loopw [6, 7] (fun c i wr => ∃ k : Nat, k ≤ na ∧ i = .int .i64 k ∧ c = .int .u32 ((brw fa fb k : Nat) : Int) ∧ MinW na nb ga gb fa fb w wr k) (fun _ i _ => na - (intOf i).toNat)
  case atStart => exact ⟨0, by omega, rfl, rfl, F0⟩
  case round =>
    obtain ⟨k, hk, rfl, rfl, F⟩ := hrel
    clear F0
    by_cases hlt : k < na
    · have PB := fun W (h : Sl W gb nb fb) => part_any gb nb cb fb k W h
      have c0 := F.a.cell k hlt
      have l1 := ha.lt k
      have l2 := hb.lt k
      have l3 := brw_le fa fb k
      have i1 : (0 : Int) ≤ (k : Int) := by omega
      have i2 : (k : Int) < (na : Int) := by omega
      go_wp2
      go_quiet ((go_at_call 43; exact quiet_left (PB _ (F.b.drewN _))))
      have G := F.drewN nq
      clear F c0
      generalize World.drewN wr nq = V at G ⊢
      have c1 : V.cell? ⟨w.heap.size, k, none⟩ = some (.int .u32 0) := by
        rw [G.out.cell, Iv_get _ _ _ (by rw [fill_length]; omega), fill_getD _ _ _ _ hlt, if_neg (by omega)]
      have f1 := G.out.frozen k
      go_wp2
      obtain ⟨e1, e2⟩ := sub_part (fa k) (fb k) (brw fa fb k) l1 l2 l3
      exact ⟨⟨k + 1, by omega, by go_num, by rw [e2]; rfl, by rw [e1]; exact G.step hlt⟩, by simp [intOf]; omega⟩
    · obtain rfl : k = na := by omega
      have HO := F.out
      rw [fill_full] at HO
      have HB := F.k
      clear F
      go_wp2
      go_ret
      exact ⟨w.heap.size, k, rfl, Sl.of_blk HO (fun i => by unfold subF; split <;> omega) (fun i hi => by unfold subF; rw [if_neg (by omega)]), Nat.le_refl _, HB⟩
/-- The carry into part k, and part k of a sum. -/
def cry (fa fb : Nat → Nat) : Nat → Nat
  | 0 => 0
  | k + 1 => (cry fa fb k + fa k + fb k) / 65536
def sumF (n : Nat) (fa fb : Nat → Nat) (i : Nat) : Nat := if i < n then (cry fa fb i + fa i + fb i) % 65536 else 0
theorem cry_le (fa fb : Nat → Nat) (hfa : ∀ i, fa i < 65536) (hfb : ∀ i, fb i < 65536) : ∀ k, cry fa fb k ≤ 1
  | 0 => by simp [cry]
  | k + 1 => by
    have := cry_le fa fb hfa hfb k
    have := hfa k
    have := hfb k
    unfold cry
    omega
theorem sum_num (fa fb : Nat → Nat) (n : Nat) : ∀ k, k ≤ n → lv (sumF n fa fb) k + cry fa fb k * 65536 ^ k = lv fa k + lv fb k
  | 0, _ => by simp [lv, cry]
  | k + 1, h => by
    have ih := sum_num fa fb n k (by omega)
    have e : sumF n fa fb k + cry fa fb (k + 1) * 65536 = cry fa fb k + fa k + fb k := by
      simp only [sumF, cry, if_pos (show k < n by omega)]
      omega
    have e2 : sumF n fa fb k * 65536 ^ k + cry fa fb (k + 1) * 65536 ^ (k + 1) = cry fa fb k * 65536 ^ k + fa k * 65536 ^ k + fb k * 65536 ^ k := by
      rw [← Nat.add_mul, ← Nat.add_mul, ← e, Nat.add_mul, Nat.pow_succ, Nat.mul_assoc, Nat.mul_comm 65536 (65536 ^ k)]
    simp only [lv]
    omega


end Go.Proofs.YtmceebdaaegkeaaDoor
/- The contract of the reference's Sum. -/
namespace Go.Proofs.YtmceebdaaegkeaaDoor
open Go.RowKit

theorem val_int {k : IntKind} {a b : Int} (h : a = b) : Value.int k a = .int k b := by rw [h]
/-- The memory of Sum behind k rounds. -/
structure SumW (na nb ga gb N : Nat) (fa fb : Nat → Nat) (w wr : World) (k : Nat) : Prop where
  a : Sl wr ga na fa
  b : Sl wr gb nb fb
  out : Blk wr w.heap.size 71 (Iv .u32 (fill (N + 1) (fun i => ((sumF (N + 1) fa fb i : Nat) : Int)) k))
  k : Below w.heap.size w wr
  la : ga < w.heap.size
  lb : gb < w.heap.size
theorem SumW.step {na nb ga gb N : Nat} {fa fb : Nat → Nat} {w wr : World} {k : Nat} (h : SumW na nb ga gb N fa fb w wr k) (hk : k < N + 1) :
    SumW na nb ga gb N fa fb w (wr.setCell ⟨w.heap.size, k, none⟩ (.int .u32 ((((cry fa fb k : Nat) : Int) + ((fa k : Nat) : Int) + ((fb k : Nat) : Int)) % 65536))) (k + 1) := by
  have hla := h.la; have hlb := h.lb
  refine ⟨h.a.far (by simp; omega) _, h.b.far (by simp; omega) _, ?_, h.k.setCell (by simp) _, h.la, h.lb⟩
  have e : (((cry fa fb k : Nat) : Int) + ((fa k : Nat) : Int) + ((fb k : Nat) : Int)) % 65536 = ((sumF (N + 1) fa fb k : Nat) : Int) := by
    simp only [sumF, if_pos hk]
    omega
  rw [e]
  have := h.out.set k (.int .u32 ((sumF (N + 1) fa fb k : Nat) : Int))
  rw [Iv_set, fill_set (N + 1) (fun i => ((sumF (N + 1) fa fb i : Nat) : Int)) k] at this
  exact this

def maxN (a b : Nat) : Nat := if a < b then b else a
theorem sum_val (fa fb : Nat → Nat) (na nb : Nat) (hfa : ∀ i, fa i < 65536) (hfb : ∀ i, fb i < 65536) (ha : ∀ i, na ≤ i → fa i = 0) (hb : ∀ i, nb ≤ i → fb i = 0) :
    lv (sumF (maxN na nb + 1) fa fb) (maxN na nb + 1) = lv fa na + lv fb nb := by
  have hA : na ≤ maxN na nb := by unfold maxN; split <;> omega
  have hB : nb ≤ maxN na nb := by unfold maxN; split <;> omega
  have h := sum_num fa fb (maxN na nb + 1) (maxN na nb + 1) (Nat.le_refl _)
  have hc : cry fa fb (maxN na nb + 1) = 0 := by
    have := cry_le fa fb hfa hfb (maxN na nb)
    unfold cry
    rw [ha _ hA, hb _ hB]
    omega
  rw [hc, Nat.zero_mul, Nat.add_zero, lv_high fa na ha _ (by omega), lv_high fb nb hb _ (by omega)] at h
  exact h
theorem sub_val (fa fb : Nat → Nat) (na nb : Nat) (hfa : ∀ i, fa i < 65536) (hfb : ∀ i, fb i < 65536) (hb : ∀ i, nb ≤ i → fb i = 0) (hn : nb ≤ na) (hle : lv fb nb ≤ lv fa na) :
    lv (subF na fa fb) na = lv fa na - lv fb nb := by
  have h := sub_num fa fb hfa hfb na na (Nat.le_refl _)
  rw [lv_high fb nb hb na hn] at h
  have h1 := lv_lt (subF na fa fb) (fun i => by unfold subF; split <;> omega) na
  have h2 := brw_le fa fb na
  rcases Nat.lt_or_ge 0 (brw fa fb na) with h3 | h3
  · have : brw fa fb na = 1 := by omega
    rw [this, Nat.one_mul] at h
    omega
  · have : brw fa fb na = 0 := by omega
    rw [this, Nat.zero_mul] at h
    omega


end Go.Proofs.YtmceebdaaegkeaaDoor
