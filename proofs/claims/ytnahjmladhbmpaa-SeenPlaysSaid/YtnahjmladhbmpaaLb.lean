/- '==' on arrays of integers: the run's answer is the lists' own. -/
import Derived.Test.YtnahjmladhbmpaaLa
import Derived.ChangeKeysEq
namespace Go.Proofs.Ytnahjmladhbmpaa
open Go.RowKit

/-- The cells of an array of integers. -/
def Iv (k : IntKind) (l : List Int) : Array Value := (l.map (Value.int k)).toArray
theorem Iv_size (k : IntKind) (l : List Int) : (Iv k l).size = l.length := by simp [Iv]
theorem Iv_get (k : IntKind) (l : List Int) (i : Nat) (h : i < l.length) : (Iv k l)[i]? = some (.int k (l.getD i 0)) := by simp [Iv, h]
theorem Iv_one (k : IntKind) (l : List Int) : (Iv k l).all (·.oneCell') = true := by simp [Iv, Value.oneCell']

theorem Iv_set (k : IntKind) (l : List Int) (i : Nat) (v : Int) : (Iv k l).setIfInBounds i (.int k v) = Iv k (l.set i v) := by
  simp [Iv, List.map_set]
/-- The first k of n numbers are written, the others are 0. -/
def fill (n : Nat) (f : Nat → Int) (k : Nat) : List Int := (List.range n).map fun i => if i < k then f i else 0
theorem fill_length (n : Nat) (f : Nat → Int) (k : Nat) : (fill n f k).length = n := by simp [fill]
theorem fill_set (n : Nat) (f : Nat → Int) (k : Nat) : (fill n f k).set k (f k) = fill n f (k + 1) := by
  apply List.ext_getElem (by simp [fill])
  intro i h1 h2
  simp only [fill, List.length_map, List.length_range] at h2
  simp only [fill, List.getElem_set, List.getElem_map, List.getElem_range]
  by_cases h : k = i
  · subst h; simp
  · rw [if_neg h]
    by_cases h3 : i < k
    · rw [if_pos h3, if_pos (by omega)]
    · rw [if_neg h3, if_neg (by omega)]
theorem fill_full (n : Nat) (f : Nat → Int) : fill n f n = (List.range n).map f := by
  apply List.map_congr_left
  intro i hi
  rw [if_pos (by simpa using hi)]
theorem fill_getD (n : Nat) (f : Nat → Int) (k i : Nat) (h : i < n) : (fill n f k).getD i 0 = if i < k then f i else 0 := by simp [fill, h]

section
variable {P : Program}
theorem run_eqItems_int (w : World) (d : Nat) {e : TypeId} {k k' : IntKind} (he : P.underlying e = some (.int k')) (hp : P.plainKey e = true) (xs ys : Array Value) (f g : Nat → Int) : ∀ is : List Nat,
    (∀ i ∈ is, xs[i]? = some (.int k (f i))) → (∀ i ∈ is, ys[i]? = some (.int k (g i))) → (Op.eqItems (d + 1) e 1 xs ys is).run P w = .ok (is.all fun i => f i == g i) w
  | [], _, _ => by simp [Op.eqItems]
  | i :: is, hx, hy => by
    have ih := run_eqItems_int w d he hp xs ys f g is (fun j hj => hx j (by simp [hj])) (fun j hj => hy j (by simp [hj]))
    have h1 := run_part_plain w hp (off := i * 1) (by rw [Nat.mul_one]; exact hx i (by simp))
    have h2 := run_part_plain w hp (off := i * 1) (by rw [Nat.mul_one]; exact hy i (by simp))
    simp only [Op.eqItems, Sem.run_bind, h1, h2, Result.andThen_ok, run_equalIn_int w d e k k' (f i) (g i) he, List.all_cons]
    by_cases h : f i = g i
    · simp [h, ih]
    · simp [h]
theorem run_eq_ints (w : World) (d : Nat) {t e : TypeId} {n : Nat} {i : TypeInfo} {k k' : IntKind} (hu : P.underlying t = some (.array n e)) (hi : P.info? e = some i) (he : P.underlying e = some (.int k')) (hp : P.plainKey e = true) (hc : P.cellsOf e = 1)
    (l1 l2 : List Int) (h1 : l1.length = n) (h2 : l2.length = n) : (Op.equalIn (d + 2) t (.agg (Iv k l1)) (.agg (Iv k l2))).run P w = .ok (decide (l1 = l2)) w := by
  rw [run_equalIn_array w (d + 1) _ _ hu hi, hc, run_eqItems_int w d he hp (k := k) _ _ (fun i => l1.getD i 0) (fun i => l2.getD i 0) (List.range n) (fun i hi => Iv_get k l1 i (by simp at hi; omega)) (fun i hi => Iv_get k l2 i (by simp at hi; omega))]
  congr 1
  rw [Bool.eq_iff_iff, List.all_eq_true, decide_eq_true_iff]
  constructor
  · intro h
    apply List.ext_getElem (by omega)
    intro j hj1 hj2
    have := h j (by simp; omega)
    simpa [hj1, hj2] using this
  · rintro rfl j _
    simp
end


end Go.Proofs.Ytnahjmladhbmpaa
