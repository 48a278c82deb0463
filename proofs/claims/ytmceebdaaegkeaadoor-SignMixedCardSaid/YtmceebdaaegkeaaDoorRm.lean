/- Plain arithmetic of the reference's Fold: what stands above 2^255 counts 19 times. -/
import Derived.Test.YtmceebdaaegkeaaDoorRh
import Derived.Deep.LoopGhost
import Derived.Test.YtmceebdaaegkeaaDoorFk
namespace Go.Proofs.YtmceebdaaegkeaaDoor
open Go.RowKit

theorem big_div (v j : Nat) : v / 57896044618658097711785492504343953926634992332820282019728792003956564819968 / 65536 ^ j = v / 65536 ^ (j + 15) / 32768 := by
  rw [Nat.div_div_eq_div_mul, Nat.div_div_eq_div_mul, Nat.pow_add]
  congr 1
  rw [Nat.mul_comm, Nat.mul_assoc]
theorem hi_part (v j : Nat) : dAt (v / 57896044618658097711785492504343953926634992332820282019728792003956564819968) j = dAt v (j + 15) / 32768 + dAt v (j + 16) * 2 % 65536 := by
  have e : v / 65536 ^ (j + 16) = v / 65536 ^ (j + 15) / 65536 := by rw [Nat.div_div_eq_div_mul, ← Nat.pow_succ]
  unfold dAt
  rw [big_div, e]
  generalize v / 65536 ^ (j + 15) = x
  omega
theorem lo_part (v i : Nat) (hi : i < 16) : dAt (v % 57896044618658097711785492504343953926634992332820282019728792003956564819968) i = if i = 15 then dAt v 15 % 32768 else dAt v i := by
  unfold dAt
  have hp : (57896044618658097711785492504343953926634992332820282019728792003956564819968 : Nat) = 65536 ^ i * (65536 ^ (15 - i) * 32768) := by
    rw [← Nat.mul_assoc, ← Nat.pow_add, show i + (15 - i) = 15 by omega]
  rw [hp, Nat.mod_mul_right_div_self]
  by_cases h : i = 15
  · subst h
    rw [if_pos rfl, Nat.sub_self, Nat.pow_zero, Nat.one_mul]
    omega
  · rw [if_neg h]
    have hd : (65536 : Nat) ∣ 65536 ^ (15 - i) * 32768 := by
      rw [show 15 - i = (14 - i) + 1 by omega, Nat.pow_succ]
      exact Nat.dvd_trans (Nat.dvd_mul_left 65536 _) (Nat.dvd_mul_right _ _)
    rw [Nat.mod_mod_of_dvd _ hd]

/-- The high part behind k rounds. -/
def hk (fa : Nat → Nat) (k j : Nat) : Nat := (if j + 15 < k then fa (j + 15) / 32768 else 0) + (if j + 16 < k then fa (j + 16) * 2 % 65536 else 0)
def put (o : Nat → Nat) (p x : Nat) (j : Nat) : Nat := if j = p then x else o j
theorem put_set (o : Nat → Nat) (p x n : Nat) : ((List.range n).map fun j => ((o j : Nat) : Int)).set p ((x : Nat) : Int) = (List.range n).map fun j => ((put o p x j : Nat) : Int) := by
  apply List.ext_getElem (by simp)
  intro j h1 h2
  simp only [List.getElem_set, List.getElem_map, List.getElem_range, put]
  by_cases h : p = j
  · rw [if_pos h, if_pos h.symm]
  · rw [if_neg h, if_neg (fun e => h e.symm)]
theorem hk_low (fa : Nat → Nat) (k : Nat) (h : k < 15) : hk fa (k + 1) = hk fa k := by
  funext j
  unfold hk
  rw [if_neg (by omega), if_neg (by omega), if_neg (by omega), if_neg (by omega)]
theorem hk_15 (fa : Nat → Nat) : put (hk fa 15) 0 (fa 15 / 32768) = hk fa 16 := by
  funext j
  unfold put hk
  by_cases h : j = 0
  · subst h
    rw [if_pos rfl, if_pos (by omega), if_neg (by omega)]
    rfl
  · rw [if_neg h, if_neg (by omega), if_neg (by omega), if_neg (by omega), if_neg (by omega)]
theorem hk_high (fa : Nat → Nat) (k : Nat) (h : 16 ≤ k) : put (put (hk fa k) (k - 15) (fa k / 32768)) (k - 16) (fa (k - 1) / 32768 + fa k * 2 % 65536) = hk fa (k + 1) := by
  funext j
  unfold put hk
  by_cases h1 : j = k - 16
  · rw [if_pos h1, if_pos (by omega), if_pos (by omega), show j + 15 = k - 1 by omega, show j + 16 = k by omega]
  · rw [if_neg h1]
    by_cases h2 : j = k - 15
    · rw [if_pos h2, if_pos (by omega), if_neg (by omega), show j + 15 = k by omega]
      rfl
    · rw [if_neg h2]
      by_cases h3 : j + 15 < k
      · rw [if_pos h3, if_pos (show j + 16 < k by omega), if_pos (show j + 15 < k + 1 by omega), if_pos (show j + 16 < k + 1 by omega)]
      · rw [if_neg h3, if_neg (show ¬ j + 16 < k by omega), if_neg (show ¬ j + 15 < k + 1 by omega), if_neg (show ¬ j + 16 < k + 1 by omega)]
theorem hk_at (fa : Nat → Nat) (k : Nat) (h : 15 ≤ k) : hk fa k (k - 15) = 0 := by
  unfold hk
  rw [if_neg (by omega), if_neg (by omega)]
theorem hk_at16 (fa : Nat → Nat) (k : Nat) (h : 16 ≤ k) : put (hk fa k) (k - 15) (fa k / 32768) (k - 16) = fa (k - 1) / 32768 := by
  unfold put hk
  rw [if_neg (by omega), if_pos (by omega), if_neg (by omega), show k - 16 + 15 = k - 1 by omega]
  rfl
theorem fill_over (n : Nat) (f : Nat → Int) (k : Nat) (h : n ≤ k) : fill n f (k + 1) = fill n f k := by
  unfold fill
  apply List.map_congr_left
  intro i hi
  have : i < n := by simpa using hi
  rw [if_pos (by omega), if_pos (by omega)]
/-- The high part, when all rounds are done. -/
theorem hk_done (fa : Nat → Nat) (hfa : ∀ i, fa i < 65536) (n : Nat) (hh : ∀ i, n ≤ i → fa i = 0) : hk fa n = dAt (lv fa n / 57896044618658097711785492504343953926634992332820282019728792003956564819968) := by
  funext j
  rw [hi_part]
  have e : ∀ i, dAt (lv fa n) i = fa i := fun i => lv_part_any fa hfa n hh i
  rw [e, e]
  unfold hk
  by_cases h1 : j + 15 < n
  · rw [if_pos h1]
    by_cases h2 : j + 16 < n
    · rw [if_pos h2]
    · rw [if_neg h2, hh (j + 16) (by omega)]
  · rw [if_neg h1, if_neg (by omega), hh (j + 15) (by omega), hh (j + 16) (by omega)]
/-- What the code answers for a number v is v modulo the prime. -/
theorem fold_num (v : Nat) : (v % 57896044618658097711785492504343953926634992332820282019728792003956564819968 + 19 * (v / 57896044618658097711785492504343953926634992332820282019728792003956564819968)) % pp = v % pp := by
  rw [pp_eq]
  omega


end Go.Proofs.YtmceebdaaegkeaaDoor
/- The walk of the reference's Fold. -/
namespace Go.Proofs.YtmceebdaaegkeaaDoor
open Go.RowKit

/-- A call hands back a long number, new or not, of at most 17 parts, whose value is V modulo the prime, and leaves what was there as it was. -/
def RetF (w : World) (V : Nat) (e : Ending) (w' : World) : Prop := ∃ g n c f, e = .returned (SlV g n c) ∧ Sl w' g n f ∧ lv f n = V % pp ∧ n ≤ 17 ∧ Below w.heap.size w w'

/-- The memory of Fold's round behind k parts: W the world in which the round's two lists were made. -/
structure FolW (ga n : Nat) (f : Nat → Nat) (h : Nat) (w wr : World) (k : Nat) : Prop where
  a : Sl wr ga n f
  lo : Blk wr h 71 (Iv .u32 (fill 16 (fun i => ((f i : Nat) : Int)) k))
  hi : Blk wr (h + 1) 71 (Iv .u32 ((List.range n).map fun j => ((hk f k j : Nat) : Int)))
  k : Below w.heap.size w wr
  la : ga < h
  lw : w.heap.size ≤ h
theorem FolW.drew {ga n : Nat} {f : Nat → Nat} {h : Nat} {w wr : World} {k : Nat} (F : FolW ga n f h w wr k) : FolW ga n f h w wr.drew k := ⟨F.a.drew, F.lo, F.hi, below_drew F.k, F.la, F.lw⟩
theorem FolW.low {ga n : Nat} {f : Nat → Nat} {h : Nat} {w wr : World} {k : Nat} (F : FolW ga n f h w wr k) (hlt : k < 15) : FolW ga n f h w (wr.setCell ⟨h, k, none⟩ (.int .u32 ((f k : Nat) : Int))) (k + 1) := by
  have h1 := F.la; have h2 := F.lw
  refine ⟨F.a.far (by simp; omega) _, ?_, ?_, F.k.setCell (by simp; omega) _, F.la, F.lw⟩
  · have := F.lo.set k (.int .u32 ((f k : Nat) : Int))
    rw [Iv_set, fill_set 16 (fun i => ((f i : Nat) : Int)) k] at this
    exact this
  · rw [hk_low f k hlt]
    exact F.hi.far (by simp) _
/-- Behind the low part's store at k = 15, and at k above: only the high part is yet to be written. -/
structure FolX (ga n : Nat) (f : Nat → Nat) (h : Nat) (w wr : World) (k : Nat) (o : Nat → Nat) : Prop where
  a : Sl wr ga n f
  lo : Blk wr h 71 (Iv .u32 (fill 16 (fun i => ((f i : Nat) : Int)) (k + 1)))
  hi : Blk wr (h + 1) 71 (Iv .u32 ((List.range n).map fun j => ((o j : Nat) : Int)))
  k : Below w.heap.size w wr
  la : ga < h
  lw : w.heap.size ≤ h
theorem FolX.drew {ga n : Nat} {f : Nat → Nat} {h : Nat} {w wr : World} {k : Nat} {o : Nat → Nat} (F : FolX ga n f h w wr k o) : FolX ga n f h w wr.drew k o := ⟨F.a.drew, F.lo, F.hi, below_drew F.k, F.la, F.lw⟩
theorem FolW.low15 {ga n : Nat} {f : Nat → Nat} {h : Nat} {w wr : World} (F : FolW ga n f h w wr 15) : FolX ga n f h w (wr.setCell ⟨h, 15, none⟩ (.int .u32 ((f 15 : Nat) : Int))) 15 (hk f 15) := by
  have h1 := F.la; have h2 := F.lw
  refine ⟨F.a.far (by simp; omega) _, ?_, F.hi.far (by simp) _, F.k.setCell (by simp; omega) _, F.la, F.lw⟩
  have := F.lo.set 15 (.int .u32 ((f 15 : Nat) : Int))
  rw [Iv_set, fill_set 16 (fun i => ((f i : Nat) : Int)) 15] at this
  exact this
theorem FolW.over {ga n : Nat} {f : Nat → Nat} {h : Nat} {w wr : World} {k : Nat} (F : FolW ga n f h w wr k) (hge : 16 ≤ k) : FolX ga n f h w wr k (hk f k) :=
  ⟨F.a, by rw [fill_over 16 _ k hge]; exact F.lo, F.hi, F.k, F.la, F.lw⟩
theorem FolX.put {ga n : Nat} {f : Nat → Nat} {h : Nat} {w wr : World} {k : Nat} {o : Nat → Nat} (F : FolX ga n f h w wr k o) (p x : Nat) : FolX ga n f h w (wr.setCell ⟨h + 1, p, none⟩ (.int .u32 ((x : Nat) : Int))) k (put o p x) := by
  have h1 := F.la; have h2 := F.lw
  refine ⟨F.a.far (by simp; omega) _, F.lo.far (by simp) _, ?_, F.k.setCell (by simp; omega) _, F.la, F.lw⟩
  have := F.hi.set p (.int .u32 ((x : Nat) : Int))
  rw [Iv_set, put_set] at this
  exact this
theorem FolX.done {ga n : Nat} {f : Nat → Nat} {h : Nat} {w wr : World} {k : Nat} {o : Nat → Nat} (F : FolX ga n f h w wr k o) (ho : o = hk f (k + 1)) : FolW ga n f h w wr (k + 1) :=
  ⟨F.a, F.lo, ho ▸ F.hi, F.k, F.la, F.lw⟩
theorem or_zero32 (y : Nat) (hy : y < 65536) : bits .or .u32 0 ((y : Nat) : Int) = ((y : Nat) : Int) := by
  rw [or32 16 0 _ (by decide) (by decide) (by decide) (by omega) (by omega) (by decide), Int.zero_add]
theorem or_bit32 (b e : Nat) (hb : b < 2) (he : e % 2 = 0) (he2 : e < 65536) : bits .or .u32 ((b : Nat) : Int) ((e : Nat) : Int) = ((b + e : Nat) : Int) := by
  rw [or_comm32, or32 1 _ _ (by omega) (by omega) (by omega) (by omega) (by omega) (by decide)]
  omega

theorem fill_all (f : Nat → Nat) (n : Nat) (hh : ∀ i, n ≤ i → f i = 0) : fill 16 (fun i => ((f i : Nat) : Int)) n = (List.range 16).map fun i => ((f i : Nat) : Int) := by
  unfold fill
  apply List.map_congr_left
  intro i _
  by_cases h : i < n
  · rw [if_pos h]
  · rw [if_neg h, hh i (by omega)]
    rfl
theorem low_set (f : Nat → Nat) (hf : ∀ i, f i < 65536) (n : Nat) (hh : ∀ i, n ≤ i → f i = 0) :
    ((List.range 16).map fun i => ((f i : Nat) : Int)).set 15 (((f 15 : Nat) : Int) % 32768) = (List.range 16).map fun i => ((dAt (lv f n % 57896044618658097711785492504343953926634992332820282019728792003956564819968) i : Nat) : Int) := by
  apply List.ext_getElem (by simp)
  intro j h1 h2
  have hj : j < 16 := by simpa using h2
  simp only [List.getElem_set, List.getElem_map, List.getElem_range]
  rw [lo_part _ _ hj]
  have e : ∀ i, dAt (lv f n) i = f i := fun i => lv_part_any f hf n hh i
  rw [e, e]
  by_cases h : 15 = j
  · rw [if_pos h, if_pos h.symm]
    omega
  · rw [if_neg h, if_neg (fun x => h x.symm)]
/-- No part from m on. -/
structure ZeroUp (f : Nat → Nat) (m : Nat) : Prop where
  z : ∀ j, m ≤ j → f j = 0
theorem ZeroUp.down {f : Nat → Nat} {m : Nat} (h : ZeroUp f (m + 1)) (h0 : f m = 0) : ZeroUp f m := ⟨fun j hj => by
  by_cases e : j = m
  · rw [e, h0]
  · exact h.z j (by omega)⟩
/-- Both lists of Fold's round, done. -/
structure FolY (n : Nat) (lo hi : Nat → Nat) (h : Nat) (w wr : World) : Prop where
  lo : Sl wr h 16 lo
  hi : Sl wr (h + 1) n hi
  k : Below w.heap.size w wr
  lw : w.heap.size ≤ h
theorem FolW.fin {ga n : Nat} {f : Nat → Nat} {h : Nat} {w wr : World} (F : FolW ga n f h w wr n) : FolY n (dAt (lv f n % 57896044618658097711785492504343953926634992332820282019728792003956564819968)) (dAt (lv f n / 57896044618658097711785492504343953926634992332820282019728792003956564819968)) h w (wr.setCell ⟨h, 15, none⟩ (.int .u32 (((f 15 : Nat) : Int) % 32768))) := by
  have h1 := F.la; have h2 := F.lw
  have hf := F.a.lt; have hh := F.a.high
  refine ⟨Sl.of_blk (t := 71) ?_ (dAt_lt _) (fun i hi => ?_), Sl.of_blk (t := 71) ?_ (dAt_lt _) (fun i hi => ?_), F.k.setCell (by simp; omega) _, F.lw⟩
  · have := F.lo.set 15 (.int .u32 (((f 15 : Nat) : Int) % 32768))
    rw [Iv_set, fill_all f n hh, low_set f hf n hh] at this
    exact this
  · unfold dAt
    rw [Nat.div_eq_of_lt]
    exact Nat.lt_of_lt_of_le (Nat.mod_lt _ (by decide)) (Nat.le_trans (by decide) (Nat.pow_le_pow_right (by decide) hi))
  · have := F.hi.far (p := ⟨h, 15, none⟩) (by simp) (.int .u32 (((f 15 : Nat) : Int) % 32768))
    rw [hk_done f hf n hh] at this
    exact this
  · rw [← hk_done f hf n hh]
    unfold hk
    rw [if_neg (by omega), if_neg (by omega)]
theorem and15 (x : Int) (h0 : 0 ≤ x) (h1 : x < 4294967296) : bits .and .u32 x 32767 = x % 32768 := by
  obtain ⟨n, rfl⟩ := Int.eq_ofNat_of_zero_le h0
  have h := u32_and_nat n 32767 (by omega) (by omega)
  have e : n &&& 32767 = n % 32768 := Nat.and_two_pow_sub_one_eq_mod n 15
  rw [e] at h
  exact h

theorem fold_zero (v H k : Nat) (hH : H = v / 57896044618658097711785492504343953926634992332820282019728792003956564819968) (hv : v < 65536 ^ k) (hz : ZeroUp (dAt H) 0) : v < 57896044618658097711785492504343953926634992332820282019728792003956564819968 := by
  have h1 := d_num H k
  have h2 : ∀ n, lv (dAt H) n = 0 := by
    intro n
    induction n with
    | zero => rfl
    | succ n ih => simp only [lv]; rw [ih, hz.z n (by omega), Nat.zero_mul]
  rw [h2 k, Nat.mod_eq_of_lt (by rw [hH]; exact Nat.lt_of_le_of_lt (Nat.div_le_self _ _) hv)] at h1
  rw [← h1] at hH
  exact Nat.lt_of_not_le fun h => by
    have := Nat.div_pos h (by decide)
    omega

theorem fold_top (v H k j : Nat) (hH : H = v / 57896044618658097711785492504343953926634992332820282019728792003956564819968) (hv : v < 65536 ^ k) (hj : k ≤ j + 15) : dAt H j = 0 := by
  unfold dAt
  rw [hH, big_div, Nat.div_eq_of_lt (Nat.lt_of_lt_of_le hv (Nat.pow_le_pow_right (by decide) hj)), Nat.zero_div]

end Go.Proofs.YtmceebdaaegkeaaDoor
/- Contracts of the reference's Place, Add, Sub, Mul: by value, modulo the prime. -/
namespace Go.Proofs.YtmceebdaaegkeaaDoor
open Go.RowKit

/-- A key's bytes but its highest bit. -/
def cut31 (f : Nat → Nat) (i : Nat) : Nat := if i = 31 then f 31 % 128 else f i
theorem cut31_bytes {l : List Int} {f : Nat → Nat} (hl : Bytes32 l f) : Bytes32 (l.set 31 (((f 31 : Nat) : Int) % 128)) (cut31 f) := by
  refine ⟨by simp [hl.len], fun i h => ?_, fun i => ?_⟩
  · unfold cut31
    by_cases e : i = 31
    · subst e
      rw [if_pos rfl]
      have : 31 < l.length := by rw [hl.len]; decide
      simp [List.getD, this]
    · rw [if_neg e, ← hl.get i h]
      simp [List.getD, show ¬ 31 = i from fun x => e x.symm]
  · unfold cut31
    have := hl.lt i
    have := hl.lt 31
    split <;> omega
theorem cut31_same (f : Nat → Nat) : ∀ k, k ≤ 31 → leTo (cut31 f) k = leTo f k
  | 0, _ => rfl
  | k + 1, h => by
    simp only [leTo]
    rw [cut31_same f k (by omega)]
    unfold cut31
    rw [if_neg (by omega)]
theorem cut31_num (f : Nat → Nat) (hf : ∀ i, f i < 256) : leTo (cut31 f) 32 = leTo f 32 % 57896044618658097711785492504343953926634992332820282019728792003956564819968 := by
  have h1 : leTo (cut31 f) 32 = leTo (cut31 f) 31 + cut31 f 31 * 256 ^ 31 := rfl
  have h2 : leTo f 32 = leTo f 31 + f 31 * 256 ^ 31 := rfl
  have h3 := leTo_lt f hf 31
  rw [h1, h2, cut31_same f 31 (Nat.le_refl _)]
  have h4 : cut31 f 31 = f 31 % 128 := rfl
  rw [h4]
  generalize leTo f 31 = x at *
  generalize f 31 = y at *
  simp only [Nat.reducePow] at *
  omega
theorem and7 (x : Int) (h0 : 0 ≤ x) (h1 : x < 256) : bits .and .u8 x 127 = x % 128 := by
  obtain ⟨n, rfl⟩ := Int.eq_ofNat_of_zero_le h0
  have h := u8_and_nat n 127 (by omega) (by omega)
  have e : n &&& 127 = n % 128 := Nat.and_two_pow_sub_one_eq_mod n 7
  rw [e] at h
  exact h

end Go.Proofs.YtmceebdaaegkeaaDoor
/- Contract of the reference's Power: by value, modulo the prime. -/
namespace Go.Proofs.YtmceebdaaegkeaaDoor
open Go.RowKit

theorem lv_bit (f : Nat → Nat) (hf : ∀ i, f i < 65536) (n : Nat) (hh : ∀ i, n ≤ i → f i = 0) (j : Nat) : f (j / 16) / 2 ^ (j % 16) % 2 = lv f n / 2 ^ j % 2 := by
  rw [← lv_part_any f hf n hh (j / 16)]
  have e : (65536 : Nat) = 2 ^ (j % 16) * 2 ^ (16 - j % 16) := by
    rw [← Nat.pow_add, show j % 16 + (16 - j % 16) = 16 by omega]
  have d : (2 : Nat) ∣ 2 ^ (16 - j % 16) := by
    have := Nat.pow_dvd_pow 2 (show 1 ≤ 16 - j % 16 by omega)
    simpa using this
  have h8 : (65536 : Nat) ^ (j / 16) = 2 ^ (16 * (j / 16)) := by rw [Nat.pow_mul]
  rw [h8]
  conv => lhs; rw [e]
  rw [Nat.mod_mul_right_div_self, Nat.mod_mod_of_dvd _ d, Nat.div_div_eq_div_mul, ← Nat.pow_add]
  congr 3
  omega
theorem mpow_mod (a e : Nat) : mpow (a % pp) e = mpow a e := by
  unfold mpow
  rw [← Nat.pow_mod]
theorem rpow_step0 (a v k x : Nat) (hx : x = mpow a (v / 2 ^ (k + 1))) (hb : v / 2 ^ k % 2 ≠ 1) : x * x % pp = mpow a (v / 2 ^ k) := by
  rw [hx, mpow_double, Nat.pow_succ, ← Nat.div_div_eq_div_mul]
  congr 1
  omega
theorem rpow_step1 (a v k x y : Nat) (hx : x = mpow a (v / 2 ^ (k + 1))) (hy : y = x * x % pp) (hb : v / 2 ^ k % 2 = 1) : y * a % pp = mpow a (v / 2 ^ k) := by
  rw [hy, hx, mpow_double, Nat.pow_succ, ← Nat.div_div_eq_div_mul]
  unfold mpow
  rw [Nat.mod_mul_mod, ← Nat.pow_succ]
  congr 2
  omega
theorem and1_32 (x : Int) (h0 : 0 ≤ x) (h1 : x < 4294967296) : bits .and .u32 x 1 = x % 2 := by
  obtain ⟨n, rfl⟩ := Int.eq_ofNat_of_zero_le h0
  have h := u32_and_nat n 1 (by omega) (by omega)
  have e : n &&& 1 = n % 2 := Nat.and_two_pow_sub_one_eq_mod n 1
  rw [e] at h
  exact h
theorem rbit (x s : Nat) (hx : x < 65536) : bits .and .u32 ((x : Int) / 2 ^ s) 1 = (((x / 2 ^ s % 2 : Nat)) : Int) := by
  have e : (x : Int) / 2 ^ s = ((x / 2 ^ s : Nat) : Int) := by simp
  have := Nat.div_le_self x (2 ^ s)
  rw [e]
  generalize x / 2 ^ s = y at *
  rw [and1_32 _ (by omega) (by omega)]
  omega

end Go.Proofs.YtmceebdaaegkeaaDoor
/- Contracts of the reference's Over, Same: by value. -/
namespace Go.Proofs.YtmceebdaaegkeaaDoor
open Go.RowKit

end Go.Proofs.YtmceebdaaegkeaaDoor
