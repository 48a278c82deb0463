/- The program's insert. -/
import Derived.Test.YtnahjmladhbmpaaSd
namespace Go.Proofs.Ytnahjmladhbmpaa
open Go.RowKit

/-- Cells laid over cells. -/
def over (cur : Array Value) (o : Nat) (cs : List Value) : Array Value := (cur.toList.take o ++ cs ++ cur.toList.drop (o + cs.length)).toArray
theorem run_copy2 (w : World) (ty : TypeId) (g o dLen dCap : Nat) (a : Addr) (sLen sCap m : Nat) (cur : Array Value) (t : TypeId) (cs : List Value)
    (hg : Blk w g t cur) (hm : Nat.min sLen dLen = m) (hn : cs.length = m * 2)
    (hsrc : ∀ j v, cs[j]? = some v → w.cell? (a.add j) = some v) (hfit : o + cs.length ≤ cur.size) (h1 : ∀ v ∈ cs, v.oneCell' = true) :
    (Builtin.copy_ #[39, 39] ty #[.slice (some ⟨g, o, none⟩) dLen dCap, .slice (some a) sLen sCap]).run Try.prog w =
      .ok (goInt m) (w.setRow g (over cur o cs)) := by
  obtain ⟨i, hi, hs, _, _⟩ := info_sp3
  have hl := run_firstCells_some (P := Try.prog) w 2 m a sLen sCap cs hn hsrc
  have hst := run_storeCells_at Try.prog g o t cs 0 cur w hg (by simpa using hfit) h1
  rw [Nat.add_zero] at hst
  unfold over
  have hm' : sLen.min dLen = m := hm
  simp [Builtin.copy_, run_underlying Try.underlying39, Builtin.lenOf, sizeOf, typeInfo, hi, hs, hm', hl, hst]
theorem run_copy0 (w : World) (ty : TypeId) (a b : Option Addr) (dLen dCap sLen sCap : Nat) (hm : Nat.min sLen dLen = 0) :
    (Builtin.copy_ #[39, 39] ty #[.slice a dLen dCap, .slice b sLen sCap]).run Try.prog w = .ok (goInt 0) w := by
  obtain ⟨i, hi, hs, _, _⟩ := info_sp3
  have hm' : sLen.min dLen = 0 := hm
  cases a <;> cases b <;> simp [Builtin.copy_, run_underlying Try.underlying39, Builtin.lenOf, Builtin.firstCells, sizeOf, typeInfo, hi, hm', loadCells, loadCellsFrom, storeCells]
theorem wp_copy_run {o : Oper} {a : Act} {w : World} {K : Act → World → Prop} {Q : Exit → Act → World → Prop} (d s : Operand) (ho : o.op = .call { callee := .builtin .copy, args := #[d, s], argTypes := #[39, 39] })
    (x y : Value) (hd : a.eval d = x) (hs : a.eval s = y) (v' : Value) (w' : World) (hr : (Builtin.copy_ #[39, 39] o.type #[x, y]).run Try.prog w = .ok v' w') (h : K (a.put o.dst v') w') : o.wp Try.prog a w K Q := by
  unfold Oper.wp execOp
  simp only [ho, resolve, invoke, builtin, Sem.run_bind, Sem.run_pure, Result.andThen_ok, List.map_toArray, List.map_cons, List.map_nil, hd, hs, hr]
  exact h
/-- Spans laid over those of a Seen, from place k on. -/
theorem over_seen (M : List (Nat × Nat)) (n fl k : Nat) (C : List (Nat × Nat)) (h : k + C.length ≤ M.length) : over (seenL M n fl).toArray (k * 2) (spC C) = (seenL (M.take k ++ C ++ M.drop (k + C.length)) n fl).toArray := by
  unfold over seenL
  congr 1
  show (spC M ++ _).take (k * 2) ++ spC C ++ (spC M ++ _).drop (k * 2 + (spC C).length) = _
  rw [List.take_append_of_le_length (by rw [spC_length]; omega), spC_length, ← Nat.add_mul, List.drop_append_of_le_length (by rw [spC_length]; omega), spC_take, spC_drop, spC_append, spC_append, List.append_assoc, List.append_assoc, List.append_assoc]
/-- A span among 32, at place k, the last one goes. -/
def ins32 (M : List (Nat × Nat)) (k : Nat) (p : Nat × Nat) : List (Nat × Nat) := (M.take (k + 1) ++ (M.drop k).take (31 - k) ++ M.drop 32).set k p
theorem ins32_length (M : List (Nat × Nat)) (k : Nat) (p : Nat × Nat) (hM : M.length = 32) (hk : k < 32) : (ins32 M k p).length = 32 := by
  unfold ins32
  simp only [List.length_set, List.length_append, List.length_take, List.length_drop]
  omega
theorem ins32_is (M : List (Nat × Nat)) (k : Nat) (p : Nat × Nat) (hM : M.length = 32) (hk : k < 32) : ins32 M k p = (M.insertIdx k p).take 32 := by
  unfold ins32
  rw [show M.drop 32 = [] from List.drop_eq_nil_of_le (by omega), List.append_nil]
  apply List.ext_getElem?
  intro i
  rw [List.getElem?_set, List.getElem?_take, List.getElem?_insertIdx]
  simp only [List.length_append, List.length_take, List.length_drop, hM]
  rcases Nat.lt_trichotomy i k with h | h | h
  · rw [if_neg (by omega), if_pos (by omega), if_pos (by omega), List.getElem?_append_left (by rw [List.length_take]; omega), List.getElem?_take_of_lt (by omega)]
  · subst h
    rw [if_pos rfl, if_pos (by omega), if_pos (by omega), if_neg (by omega), if_pos rfl, if_pos (by omega)]
  · rw [if_neg (by omega)]
    by_cases h2 : i < 32
    · rw [if_pos h2, if_neg (by omega), if_neg (by omega), List.getElem?_append_right (by rw [List.length_take]; omega), List.length_take, hM, Nat.min_eq_left (by omega), List.getElem?_take_of_lt (by omega), List.getElem?_drop, show k + (i - (k + 1)) = i - 1 by omega]
    · rw [if_neg h2, List.getElem?_eq_none]
      simp only [List.length_append, List.length_take, List.length_drop, hM]
      omega
end Go.Proofs.Ytnahjmladhbmpaa
