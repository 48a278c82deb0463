/- Noughts behind bytes, as many as a byte says. -/
import Derived.Test.YtfhiflakglhneaaSj
namespace Go.Proofs.Ytfhiflakglhneaa
open Go.RowKit

theorem append_nought0 (w : World) (ty : TypeId) (p : Option Addr) (n c : Nat) (hc : n ≤ c) :
    (Builtin.append_ #[29, 5] ty #[.slice p n c, .int .u8 0]).run Try.prog w = .ok (.slice p n c) w := by
  obtain ⟨i, hi, hs, hy, hz⟩ := info_u8
  have wr : IntKind.i64.wrap 0 = 0 := by decide
  cases p <;> simp [wr, Builtin.append_, run_underlying Try.underlying29, run_underlying Try.underlying5, sizeOf, typeInfo, zeroValue, hi, hz, asInt, asIntOf, hc, Builtin.zeroCells, storeCells]
theorem noughts8_room (w : World) (ty : TypeId) (g n cap k : Nat) (cur : Array Value) (hg : w.heap[g]? = some (.cells cur 5 (0, 0))) (hcs : cur.size = cap) (hroom : n + k ≤ cap) (hk : k < 256) (hk0 : 0 < k) :
    (Builtin.append_ #[29, 5] ty #[.slice (some ⟨g, 0, none⟩) n cap, .int .u8 k]).run Try.prog w = .ok (.slice (some ⟨g, 0, none⟩) (n + k) cap) (w.setRow g (cur.toList.take n ++ zB k ++ cur.toList.drop (n + k)).toArray) := by
  obtain ⟨i, hi, hs, hy, hz⟩ := info_u8
  have bl := zB_length k
  have wr : IntKind.i64.wrap (k : Int) = (k : Int) := by rw [IntKind.wrap_i64]; omega
  have h48 : ¬ (281474976710656 < (k : Int)) := by omega
  have h0 : ¬ ((k : Int) < 0) := by omega
  have hst := run_storeCells_at Try.prog g n 5 (zB k) 0 cur w hg (by rw [bl]; omega) (zB_one k)
  simp only [Nat.add_zero, bl] at hst
  have zc1 : (Value.int .u8 0).cells = #[Value.int .u8 0] := rfl
  have hne : ¬ k = 0 := by omega
  simp [Builtin.append_, run_underlying Try.underlying29, run_underlying Try.underlying5, sizeOf, typeInfo, zeroValue, hi, hs, hy, hz, asInt, asIntOf, wr, h48, h0, hroom, hne, zc1, zeroCells_bytes, Addr.add_lit, hst]
theorem noughts8_grow (w : World) (ty : TypeId) (g n cap k : Nat) (cur : Array Value) (_hg : w.heap[g]? = some (.cells cur 5 (0, 0))) (xs : List Value) (hx : xs.length = n) (hcell : ∀ j u, xs[j]? = some u → w.cell? ((⟨g, 0, none⟩ : Addr).add j) = some u) (hroom : cap < n + k) (hnc : n ≤ cap) (hk : k < 256) (hnk : n + k ≤ 1000) :
    (Builtin.append_ #[29, 5] ty #[.slice (some ⟨g, 0, none⟩) n cap, .int .u8 k]).run Try.prog w = .ok (.slice (some ⟨w.heap.size, 0, none⟩) (n + k) (grownCap w (n + k) cap 5))
      (w.drew.alloc (.cells (xs.toArray ++ (zB k).toArray ++ (zB (grownCap w (n + k) cap 5 - (n + k))).toArray) 5)) := by
  obtain ⟨i, hi, hs, hy, hz⟩ := info_u8
  have wr : IntKind.i64.wrap (k : Int) = (k : Int) := by rw [IntKind.wrap_i64]; omega
  have h48 : ¬ (281474976710656 < (k : Int)) := by omega
  have h0 : ¬ ((k : Int) < 0) := by omega
  have hn : ¬ (n + k ≤ cap) := by omega
  have h63' : ¬ (9223372036854775807 < ((n : Int) + (k : Int))) := by omega
  have zc1 : (Value.int .u8 0).cells = #[Value.int .u8 0] := rfl
  have hcapn : Builtin.nextslicecap (n + k) cap ≤ 281474976710656 := by
    have := growslice_fits (need := n + k) (old := cap) (bytes := 1) (by omega) (by omega)
    omega
  have h48' : ¬ (281474976710656 < Builtin.nextslicecap (n + k) cap) := by omega
  have hfo := run_firstCells_some (P := Try.prog) w.drew i.size n ⟨g, 0, none⟩ n cap xs (by rw [hs, hx, Nat.mul_one]) (by simpa using hcell)
  rw [hs] at hfo
  by_cases hne : k = 0
  · omega
  · simp [Builtin.append_, run_underlying Try.underlying29, run_underlying Try.underlying5, sizeOf, typeInfo, zeroValue, hi, hs, hy, hz, asInt, asIntOf, wr, h48, h0, hn, hne, h63', h48', Question.forced, hfo, newRow, grownCap, zc1, zeroCells_bytes]
theorem append_noughts8 (B : Nat) (w : World) (ty : TypeId) (v : Value) (l : List Nat) (hv : OwL B w v l) (hsome : v.ownBlock.isSome = true) (k : Nat) (hlk : l.length + k ≤ 1000) (hk : k < 256) (hk0 : 0 < k) (hB : B ≤ w.heap.size) :
    ∃ v' w', (Builtin.append_ #[29, 5] ty #[v, .int .u8 k]).run Try.prog w = .ok v' w' ∧ OwL B w' v' (l ++ List.replicate k 0) ∧ w.grownBy w' v.ownBlock ∧ (v'.ownBlock = v.ownBlock ∨ v'.ownBlock = some w.heap.size) := by
  obtain ⟨hl, hr⟩ := hv
  rcases hr with ⟨rfl, _⟩ | ⟨g, cap, cur, rfl, hBg, hg, hnc, hcm, hcs, htake⟩
  · cases hsome
  have hown : w.ownsRow B 5 1 (.slice (some ⟨g, 0, none⟩) l.length cap) l.length (vals l) := ⟨hl, .inr ⟨g, cap, cur, rfl, hBg, hg, hnc, hcm, hcs, htake⟩⟩
  rw [Nat.mul_one] at hcs htake
  have bl := zB_length k
  have blf := vals_length l
  have ev : vals (l ++ List.replicate k 0) = vals l ++ zB k := vals_append _ _
  have el : (l ++ List.replicate k 0).length = l.length + k := by rw [List.length_append, List.length_replicate]
  by_cases hroom : l.length + k ≤ cap
  · refine ⟨_, _, noughts8_room w ty g l.length cap k cur hg hcs hroom hk hk0, ⟨by rw [vals_length, Nat.mul_one], .inr ⟨g, cap, _, by rw [el], hBg, setRow_heap w g cur _ 5 _ hg, by rw [el]; exact hroom, hcm, ?_, ?_⟩⟩, grown_row w g _, Or.inl rfl⟩
    · simp only [List.size_toArray, List.length_append, List.length_take, List.length_drop, Array.length_toList, bl]
      omega
    · rw [htake, ev, Nat.mul_one, el]
      simp only [List.append_assoc]
      rw [← List.append_assoc]
      refine List.take_left' ?_
      rw [List.length_append, bl, blf]
  · have hge := grownCap_ge w (l.length + k) cap 5
    have hcm2 : grownCap w (l.length + k) cap 5 ≤ maxLen := grownCap_le_maxLen w (l.length + k) cap 5 (by simp only [maxLen]; omega)
    refine ⟨_, _, noughts8_grow w ty g l.length cap k cur hg (vals l) blf (hown.cells (g := g) rfl) (by omega) hnc hk hlk, ⟨by rw [vals_length, Nat.mul_one], .inr ⟨w.heap.size, _, _, by rw [el], hB, heap_alloc_new w.drew _, by rw [el]; exact hge, hcm2, ?_, ?_⟩⟩, grown_below ((below_drew (Below.refl _ _)).alloc (Nat.le_refl _) _) _, Or.inr rfl⟩
    · simp only [Array.size_append, List.size_toArray, vals_length, zB_length]
      omega
    · rw [ev, Nat.mul_one, el]
      simp only [Array.toList_append]
      refine List.take_left' ?_
      rw [List.length_append, bl, blf]

theorem own1_noughts8 {B : Nat} {w0 w : World} {v : Value} {l : List Nat} (ty : TypeId) (k : Nat) (hk : k < 256) (hk0 : 0 < k) (h : Own1 B w v l) (hl : l.length + k ≤ 1000) (b : Below B w0 w) (hB : B ≤ w.heap.size) :
    ∃ v' w', (Builtin.append_ #[29, 5] ty #[v, .int .u8 k]).run Try.prog w = .ok v' w' ∧ Own1 B w' v' (l ++ List.replicate k 0) ∧ Below B w0 w' := by
  obtain ⟨v', w', h1, h2, h3, h4⟩ := append_noughts8 B w ty v l h.own h.some_ k hl hk hk0 hB
  exact ⟨v', w', h1, h.grow h2 h4, below_grown' b h3 (fun j e => (h.own.lt j e).1) hB⟩

theorem own1_bytes8 {B : Nat} {w0 w : World} {v : Value} {l : List Nat} (ty : TypeId) (k : Nat) (hk : k < 256) (h : Own1 B w v l) (hl : l.length + k ≤ 1000) (b : Below B w0 w) (hB : B ≤ w.heap.size) :
    ∃ v' w', (Builtin.append_ #[29, 5] ty #[v, .int .u8 k]).run Try.prog w = .ok v' w' ∧ Own1 B w' v' (l ++ List.replicate k 0) ∧ Below B w0 w' := by
  by_cases h0 : k = 0
  · subst h0
    obtain ⟨g, c, rfl, _, hc, _⟩ := h.slice
    exact ⟨_, w, append_nought0 w ty _ _ c hc, by rw [List.replicate_zero, List.append_nil]; exact h, b⟩
  · exact own1_noughts8 ty k hk (by omega) h hl b hB
end Go.Proofs.Ytfhiflakglhneaa
