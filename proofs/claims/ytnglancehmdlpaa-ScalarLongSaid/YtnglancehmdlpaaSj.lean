/- Slices of bytes that the call has made: append of bytes, append of noughts. -/
import Derived.Test.YtnglancehmdlpaaRt
import Derived.Deep.AppendLies
namespace Go.Proofs.Ytnglancehmdlpaa
open Go.RowKit

theorem info_u8_all : (Try.prog.info? 5).map (fun i => (i.size, i.bytes)) = some (1, 1) := by kernel_rfl
theorem info_u8_zero : (Try.prog.info? 5).map (fun i => i.zero) = some (some (.int .u8 0)) := by kernel_rfl
theorem info_u8 : ∃ i, Try.prog.info? 5 = some i ∧ i.size = 1 ∧ i.bytes = 1 ∧ i.zero = some (.int .u8 0) := by
  have h1 := info_u8_all
  have h2 := info_u8_zero
  cases h : Try.prog.info? 5 with
  | none => rw [h] at h1; cases h1
  | some i =>
    rw [h] at h1 h2
    simp only [Option.map_some, Option.some.injEq, Prod.mk.injEq] at h1 h2
    exact ⟨i, rfl, h1.1, h1.2, h2⟩

/-- n bytes in a row that the call has made, at block B or behind it. -/
def bytesL (f : Nat → Nat) (n : Nat) : List Value := (List.range n).map fun i => .int .u8 ((f i : Nat) : Int)
def Ow (B : Nat) (w : World) (v : Value) (n : Nat) (f : Nat → Nat) : Prop := w.ownsRow B 5 1 v n (bytesL f n) ∧ v.ownBlock.isSome = true
theorem bytesL_length (f : Nat → Nat) (n : Nat) : (bytesL f n).length = n := by simp [bytesL]
theorem bytesL_get (f : Nat → Nat) (n i : Nat) (h : i < n) : (bytesL f n)[i]? = some (.int .u8 ((f i : Nat) : Int)) := by simp [bytesL, h]
theorem Ow.row {B : Nat} {w : World} {v : Value} {n : Nat} {f : Nat → Nat} (h : Ow B w v n f) : ∃ g cap, v = .slice (some ⟨g, 0, none⟩) n cap ∧ B ≤ g ∧ g < w.heap.size ∧ n ≤ cap ∧ ∀ i, i < n → w.cell? ⟨g, i, none⟩ = some (.int .u8 ((f i : Nat) : Int)) := by
  obtain ⟨⟨hl, hr⟩, hs⟩ := h
  rcases hr with ⟨rfl, _⟩ | ⟨g, cap, cur, rfl, hB, hg, hnc, _, hcs, htake⟩
  · cases hs
  · refine ⟨g, cap, rfl, hB, ?_, hnc, fun i hi => ?_⟩
    · rcases Nat.lt_or_ge g w.heap.size with h | h
      · exact h
      · rw [Array.getElem?_eq_none h] at hg
        cases hg
    · rw [cell_of_row w g i cur _ _ hg, ← Array.getElem?_toList]
      have := bytesL_get f n i hi
      rw [← htake, Nat.mul_one, List.getElem?_take] at this
      simpa [hi] using this
/-- As the contracts want it. -/
theorem Ow.bs {B : Nat} {w : World} {v : Value} {n : Nat} {f : Nat → Nat} (h : Ow B w v n f) (hf : ∀ i, f i < 256) : Bs w v n f := by
  obtain ⟨g, cap, rfl, hB, hg, hnc, hc⟩ := h.row
  exact Bs.of_by ⟨fun i hi => by rw [Nat.zero_add]; exact hc i hi, hf, hg⟩ hnc
theorem below_grown {B : Nat} {a w w' : World} {row : Option Nat} (h : Below B a w) (hg : w.grownBy w' row) (hrow : ∀ k, row = some k → B ≤ k) (hB : B ≤ w.heap.size) : Below B a w' :=
  ⟨hg.os.trans h.os, hg.tape.trans h.tape, hg.output.trans h.output, Nat.le_trans h.size hg.size, fun i hi => (hg.block i (by omega) (fun e => by have := hrow i e.symm; omega)).trans (h.block i hi)⟩
theorem run_buildSlice_none (w : World) : (Instr.buildSlice 22 0 #[]).run Try.prog w = .ok (.slice (some ⟨w.heap.size, 0, none⟩) 0 0) (w.alloc (.cells #[] 5)) := by
  obtain ⟨i, hi, hs, _, _⟩ := info_u8
  simp [Instr.buildSlice, run_underlying Try.underlying22, sizeOf, typeInfo, hi, hs, newRow, Instr.fill]
  exact congrArg (fun c => w.alloc (.cells c 5)) (Array.ext (by simp) (fun i h => by simp at h))
theorem ow_new (B : Nat) (w : World) (f : Nat → Nat) (hB : B ≤ w.heap.size) : Ow B (w.alloc (.cells #[] 5)) (.slice (some ⟨w.heap.size, 0, none⟩) 0 0) 0 f :=
  ⟨⟨by simp [bytesL], .inr ⟨w.heap.size, 0, #[], rfl, hB, heap_alloc_new w _, Nat.le_refl _, Nat.zero_le _, rfl, rfl⟩⟩, rfl⟩

/-- Bytes behind bytes. -/
def joinF (n : Nat) (f h : Nat → Nat) (i : Nat) : Nat := if i < n then f i else h (i - n)
theorem joinF_lt (n : Nat) (f h : Nat → Nat) (hf : ∀ i, f i < 256) (hh : ∀ i, h i < 256) (i : Nat) : joinF n f h i < 256 := by
  unfold joinF
  split
  · exact hf i
  · exact hh _
theorem bytesL_join (n m : Nat) (f h : Nat → Nat) : bytesL f n ++ bytesL h m = bytesL (joinF n f h) (n + m) := by
  apply List.ext_getElem?
  intro i
  rcases Nat.lt_or_ge i n with h1 | h1
  · rw [List.getElem?_append_left (by rw [bytesL_length]; exact h1), bytesL_get _ _ _ h1, bytesL_get _ _ _ (by omega), show joinF n f h i = f i from if_pos h1]
  · rw [List.getElem?_append_right (by rw [bytesL_length]; exact h1), bytesL_length]
    rcases Nat.lt_or_ge i (n + m) with h2 | h2
    · rw [bytesL_get _ _ _ (by omega), bytesL_get _ _ _ h2, show joinF n f h i = h (i - n) from if_neg (by omega)]
    · rw [List.getElem?_eq_none (by rw [bytesL_length]; omega), List.getElem?_eq_none (by rw [bytesL_length]; omega)]
theorem leTo_join (n m : Nat) (f h : Nat → Nat) : leTo (joinF n f h) (n + m) = leTo f n + 256 ^ n * leTo h m := by
  rw [leTo_split]
  have e1 : ∀ k, k ≤ n → leTo (joinF n f h) k = leTo f k := by
    intro k
    induction k with
    | zero => intro _; rfl
    | succ k ih => intro hk; unfold leTo; rw [ih (by omega), show joinF n f h k = f k from if_pos (by omega)]
  rw [e1 n (Nat.le_refl _), show (fun i => joinF n f h (n + i)) = h from funext fun i => by
    unfold joinF
    rw [if_neg (by omega), Nat.add_sub_cancel_left]]
theorem leTo_noughts : ∀ m, leTo (fun _ => 0) m = 0
  | 0 => rfl
  | m + 1 => by unfold leTo; rw [leTo_noughts m]; simp

theorem append_bytes (B : Nat) (a w : World) (ty : TypeId) (v : Value) (n : Nat) (f : Nat → Nat) (hv : Ow B w v n f) (gx ox m c : Nat) (h : Nat → Nat) (hx : By w gx ox m h) (hm : 0 < m) (hnm : n + m ≤ 1000) (hB : B ≤ w.heap.size) (hb : Below B a w) :
    ∃ v' w', (Builtin.append_ #[22, 22] ty #[v, .slice (some ⟨gx, ox, none⟩) m c]).run Try.prog w = .ok v' w' ∧ Ow B w' v' (n + m) (joinF n f h) ∧ Below B a w' := by
  obtain ⟨i, hi, hs, hy, hz⟩ := info_u8
  obtain ⟨g0, cap0, rfl, hB0, _⟩ := hv.row
  obtain ⟨v', w', hr, h2, h3, h4, h5⟩ := run_append_own_at (P := Try.prog) w B 22 ty 5 i (.int .u8 0) 1 1 Try.underlying22 hi hz hs hy rfl (by decide) _ n _ hv.1 ⟨gx, ox, none⟩ m c (bytesL h m) (by rw [bytesL_length, Nat.mul_one])
    (fun j u hu => by
      have hj : j < m := by
        have := (List.getElem?_eq_some_iff.1 hu).1
        rwa [bytesL_length] at this
      rw [bytesL_get h m j hj] at hu
      rw [Addr.add_lit, hx.cell j hj]
      exact hu)
    (fun u hu => by
      simp only [bytesL, List.mem_map] at hu
      obtain ⟨_, _, rfl⟩ := hu
      rfl)
    (by simp only [maxLen]; omega) (by omega) hB
  refine ⟨v', w', hr, ⟨bytesL_join n m f h ▸ h2, ?_⟩, below_grown hb h3 (fun k hk => ?_) hB⟩
  · rcases h5 with h5 | h5 <;> rw [h5] <;> rfl
  · simp only [Value.ownBlock, Option.some.injEq] at hk
    omega
theorem wp_append_run {P : Program} {o : Oper} {a : Act} {w : World} {K : Act → World → Prop} {Q : Exit → Act → World → Prop} (s x : Operand) (t u : TypeId)
    (ho : o.op = .call { callee := .builtin .append, args := #[s, x], argTypes := #[t, u] }) (v y : Value) (hs : a.eval s = v) (hx : a.eval x = y) (v' : Value) (w' : World)
    (hr : (Builtin.append_ #[t, u] o.type #[v, y]).run P w = .ok v' w') (h : K (a.put o.dst v') w') : o.wp P a w K Q := by
  unfold Oper.wp execOp
  simp only [ho, resolve, invoke, builtin, Sem.run_bind, Sem.run_pure, Result.andThen_ok, List.map_toArray, List.map_cons, List.map_nil, hs, hx, hr]
  exact h
theorem wp_build_run {P : Program} {o : Oper} {a : Act} {w : World} {K : Act → World → Prop} {Q : Exit → Act → World → Prop} (t : TypeId)
    (ho : o.op = .buildSlice t 0 #[]) (v' : Value) (w' : World) (hr : (Instr.buildSlice t 0 #[]).run P w = .ok v' w') (h : K (a.put o.dst v') w') : o.wp P a w K Q := by
  unfold Oper.wp execOp
  simp only [ho, Sem.run_bind, Array.map_empty, hr, Result.andThen_ok]
  exact h

theorem zeroCells_bytes (m : Nat) : Builtin.zeroCells #[Value.int .u8 0] m = (bytesL (fun _ => 0) m).toArray := by
  apply Array.ext
  · simp [Builtin.zeroCells, bytesL]
  · intro j h1 h2
    simp [Builtin.zeroCells, bytesL, Nat.mod_one]
theorem zeroCells_none : Builtin.zeroCells #[Value.int .u8 0] 0 = #[] := zeroCells_bytes 0
theorem noughts_room (w : World) (ty : TypeId) (g n cap k : Nat) (cur : Array Value) (hg : w.heap[g]? = some (.cells cur 5 (0, 0))) (hcs : cur.size = cap) (hroom : n + k ≤ cap) (hk : k < 256) :
    (Builtin.append_ #[22, 5] ty #[.slice (some ⟨g, 0, none⟩) n cap, .int .u8 k]).run Try.prog w = .ok (.slice (some ⟨g, 0, none⟩) (n + k) cap) (w.setRow g (cur.toList.take n ++ bytesL (fun _ => 0) k ++ cur.toList.drop (n + k)).toArray) := by
  obtain ⟨i, hi, hs, hy, hz⟩ := info_u8
  have bl := bytesL_length (fun _ => 0) k
  have wr : IntKind.i64.wrap (k : Int) = (k : Int) := by rw [IntKind.wrap_i64]; omega
  have h48 : ¬ (281474976710656 < (k : Int)) := by omega
  have h0 : ¬ ((k : Int) < 0) := by omega
  have hst := run_storeCells_at Try.prog g n 5 (bytesL (fun _ => 0) k) 0 cur w hg (by rw [bl]; omega) (fun u hu => by
    simp only [bytesL, List.mem_map] at hu
    obtain ⟨_, _, rfl⟩ := hu
    rfl)
  simp only [Nat.add_zero, bl] at hst
  have zc1 : (Value.int .u8 0).cells = #[Value.int .u8 0] := rfl
  rcases Nat.eq_zero_or_pos k with hk0 | hk0
  · subst hk0
    have wr0 : IntKind.i64.wrap 0 = 0 := by rw [IntKind.wrap_i64]; rfl
    have hst0 : (storeCells ⟨g, n, none⟩ [] 0).run Try.prog w = .ok () w := rfl
    have hrow : w.setRow g (cur.toList.take n ++ bytesL (fun _ => 0) 0 ++ cur.toList.drop (n + 0)).toArray = w := by
      have e : (cur.toList.take n ++ bytesL (fun _ => 0) 0 ++ cur.toList.drop (n + 0)).toArray = cur := by simp [bytesL]
      rw [e]
      exact setRow_self w g cur _ (0, 0) hg
    rw [hrow]
    clear hst hrow
    simp [Builtin.append_, run_underlying Try.underlying22, run_underlying Try.underlying5, sizeOf, typeInfo, hi, hs, hy, asInt, asIntOf, wr0, Addr.add_lit, hst0, show n ≤ cap from by omega]
  · have hne : ¬ k = 0 := by omega
    simp [Builtin.append_, run_underlying Try.underlying22, run_underlying Try.underlying5, sizeOf, typeInfo, zeroValue, hi, hs, hy, hz, asInt, asIntOf, wr, h48, h0, hroom, hne, zc1, zeroCells_bytes, Addr.add_lit, hst]
theorem noughts_grow (w : World) (ty : TypeId) (g n cap k : Nat) (cur : Array Value) (hg : w.heap[g]? = some (.cells cur 5 (0, 0))) (xs : List Value) (hx : xs.length = n) (hcell : ∀ j u, xs[j]? = some u → w.cell? ((⟨g, 0, none⟩ : Addr).add j) = some u) (hroom : cap < n + k) (hnc : n ≤ cap) (hk : k < 256) (hnk : n + k ≤ 1000) :
    (Builtin.append_ #[22, 5] ty #[.slice (some ⟨g, 0, none⟩) n cap, .int .u8 k]).run Try.prog w = .ok (.slice (some ⟨w.heap.size, 0, none⟩) (n + k) (grownCap w (n + k) cap 5))
      (w.drew.alloc (.cells (xs.toArray ++ (bytesL (fun _ => 0) k).toArray ++ (bytesL (fun _ => 0) (grownCap w (n + k) cap 5 - (n + k))).toArray) 5)) := by
  obtain ⟨i, hi, hs, hy, hz⟩ := info_u8
  have wr : IntKind.i64.wrap (k : Int) = (k : Int) := by rw [IntKind.wrap_i64]; omega
  have h48 : ¬ (281474976710656 < (k : Int)) := by omega
  have h0 : ¬ ((k : Int) < 0) := by omega
  have hn : ¬ (n + k ≤ cap) := by omega
  have h63' : ¬ (9223372036854775807 < ((n : Int) + (k : Int))) := by omega
  have zc1 : (Value.int .u8 0).cells = #[Value.int .u8 0] := rfl
  have hcapn : Builtin.nextslicecap (n + k) cap ≤ 281474976710656 := by
    have := growslice_fits (need := n + k) (old := cap) (bytes := 1) (by omega) (by omega)
    omega
  have h48' : ¬ (281474976710656 < Builtin.nextslicecap (n + k) cap) := by omega
  have hfo := run_firstCells_some (P := Try.prog) w.drew i.size n ⟨g, 0, none⟩ n cap xs (by rw [hs, hx, Nat.mul_one]) (by simpa using hcell)
  rw [hs] at hfo
  by_cases hne : k = 0
  · omega
  · simp [Builtin.append_, run_underlying Try.underlying22, run_underlying Try.underlying5, sizeOf, typeInfo, zeroValue, hi, hs, hy, hz, asInt, asIntOf, wr, h48, h0, hn, hne, h63', h48', Question.forced, hfo, newRow, grownCap, zc1, zeroCells_bytes]
theorem append_noughts (B : Nat) (a w : World) (ty : TypeId) (v : Value) (n : Nat) (f : Nat → Nat) (hv : Ow B w v n f) (k : Nat) (hnk : n + k ≤ 1000) (hk : k < 256) (hB : B ≤ w.heap.size) (hb : Below B a w) :
    ∃ v' w', (Builtin.append_ #[22, 5] ty #[v, .int .u8 k]).run Try.prog w = .ok v' w' ∧ Ow B w' v' (n + k) (joinF n f fun _ => 0) ∧ Below B a w' := by
  obtain ⟨⟨hl, hr⟩, hsome⟩ := hv
  rcases hr with ⟨rfl, _⟩ | ⟨g, cap, cur, rfl, hBg, hg, hnc, hcm, hcs, htake⟩
  · cases hsome
  have hown : w.ownsRow B 5 1 (.slice (some ⟨g, 0, none⟩) n cap) n (bytesL f n) := ⟨hl, .inr ⟨g, cap, cur, rfl, hBg, hg, hnc, hcm, hcs, htake⟩⟩
  rw [Nat.mul_one] at hcs htake
  have bl := bytesL_length (fun _ => 0) k
  have blf := bytesL_length f n
  by_cases hroom : n + k ≤ cap
  · refine ⟨_, _, noughts_room w ty g n cap k cur hg hcs hroom hk, ⟨⟨by rw [bytesL_length, Nat.mul_one], .inr ⟨g, cap, _, rfl, hBg, setRow_heap w g cur _ 5 _ hg, hroom, hcm, ?_, ?_⟩⟩, rfl⟩, below_setRow hb hBg _⟩
    · simp only [List.size_toArray, List.length_append, List.length_take, List.length_drop, Array.length_toList, bl]
      omega
    · rw [htake, ← bytesL_join, Nat.mul_one]
      simp only [List.append_assoc]
      rw [← List.append_assoc]
      refine List.take_left' ?_
      rw [List.length_append, bl, blf]
  · have hge := grownCap_ge w (n + k) cap 5
    have hcm2 : grownCap w (n + k) cap 5 ≤ maxLen := grownCap_le_maxLen w (n + k) cap 5 (by simp only [maxLen]; omega)
    refine ⟨_, _, noughts_grow w ty g n cap k cur hg (bytesL f n) blf (hown.cells (g := g) rfl) (by omega) hnc hk hnk, ⟨⟨by rw [bytesL_length, Nat.mul_one], .inr ⟨w.heap.size, _, _, rfl, hB, heap_alloc_new w.drew _, hge, hcm2, ?_, ?_⟩⟩, rfl⟩, (below_drew hb).alloc hB _⟩
    · simp only [Array.size_append, List.size_toArray, bytesL_length]
      omega
    · rw [← bytesL_join, Nat.mul_one]
      simp only [Array.toList_append]
      refine List.take_left' ?_
      rw [List.length_append, bl, blf]
end Go.Proofs.Ytnglancehmdlpaa
