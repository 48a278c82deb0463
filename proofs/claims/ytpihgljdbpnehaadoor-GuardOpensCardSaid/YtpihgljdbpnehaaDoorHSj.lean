/- Noughts behind bytes; two rows of one's own that grow apart; the reference's Head, all together. -/
import Derived.Test.YtpihgljdbpnehaaDoorLq0Nb
namespace Go.Proofs.YtpihgljdbpnehaaDoor
open Go.RowKit
/-! Noughts behind bytes. -/
def zB (k : Nat) : List Value := vals (List.replicate k 0)
theorem zB_length (k : Nat) : (zB k).length = k := by simp [zB, vals]
theorem zB_one (k : Nat) : ∀ v ∈ zB k, v.oneCell' = true := fun u hu => by
 unfold zB vals at hu
 obtain ⟨_, _, rfl⟩ := List.mem_map.1 hu
 rfl
theorem zeroCells_bytes (m : Nat) : Builtin.zeroCells #[Value.int .u8 0] m = (zB m).toArray := by
 apply Array.ext
 · simp [Builtin.zeroCells, zB, vals]
 ·
  intro j h1 h2
  simp [Builtin.zeroCells, zB, vals, Nat.mod_one]
theorem noughts_room (w : World) (ty : TypeId) (g n cap k : Nat) (cur : Array Value) (hg : w.heap[g]? = some (.cells cur 5 (0, 0))) (hcs : cur.size = cap) (hroom : n + k ≤ cap) (hk : k < 256) (hk0 : 0 < k) :
  (Builtin.append_ #[24, 3] ty #[.slice (some ⟨g, 0, none⟩) n cap, .int .i64 k]).run Tryd.prog w = .ok (.slice (some ⟨g, 0, none⟩) (n + k) cap) (w.setRow g (cur.toList.take n ++ zB k ++ cur.toList.drop (n + k)).toArray) := by
 obtain ⟨i, hi, hs, hy, hz⟩ := info_u8
 have bl := zB_length k
 have wr : IntKind.i64.wrap (k : Int) = (k : Int) := by rw [IntKind.wrap_i64]; omega
 have h48 : ¬ (281474976710656 < (k : Int)) := by omega
 have h0 : ¬ ((k : Int) < 0) := by omega
 have hst := run_storeCells_at Tryd.prog g n 5 (zB k) 0 cur w hg (by rw [bl]; omega) (zB_one k)
 simp only [Nat.add_zero, bl] at hst
 have zc1 : (Value.int .u8 0).cells = #[Value.int .u8 0] := rfl
 have hne : ¬ k = 0 := by omega
 simp [Builtin.append_, run_underlying Tryd.underlying24, run_underlying Tryd.underlying3, sizeOf, typeInfo, zeroValue, hi, hs, hy, hz, asInt, asIntOf, wr, h48, h0, hroom, hne, zc1, zeroCells_bytes, Addr.add_lit, hst]
theorem noughts_grow (w : World) (ty : TypeId) (g n cap k : Nat) (cur : Array Value) (_hg : w.heap[g]? = some (.cells cur 5 (0, 0))) (xs : List Value) (hx : xs.length = n) (hcell : ∀ j u, xs[j]? = some u → w.cell? ((⟨g, 0, none⟩ : Addr).add j) = some u) (hroom : cap < n + k) (hnc : n ≤ cap) (hk : k < 256) (hnk : n + k ≤ 1000) :
  (Builtin.append_ #[24, 3] ty #[.slice (some ⟨g, 0, none⟩) n cap, .int .i64 k]).run Tryd.prog w = .ok (.slice (some ⟨w.heap.size, 0, none⟩) (n + k) (grownCap w (n + k) cap 5))
   (w.drew.alloc (.cells (xs.toArray ++ (zB k).toArray ++ (zB (grownCap w (n + k) cap 5 - (n + k))).toArray) 5)) := by
 obtain ⟨i, hi, hs, hy, hz⟩ := info_u8
 have wr : IntKind.i64.wrap (k : Int) = (k : Int) := by rw [IntKind.wrap_i64]; omega
 have h48 : ¬ (281474976710656 < (k : Int)) := by omega
 have h0 : ¬ ((k : Int) < 0) := by omega
 have hn : ¬ (n + k ≤ cap) := by omega
 have h63' : ¬ (9223372036854775807 < ((n : Int) + (k : Int))) := by omega
 have zc1 : (Value.int .u8 0).cells = #[Value.int .u8 0] := rfl
 have hcapn : Builtin.nextslicecap (n + k) cap ≤ 281474976710656 := by
  have := growslice_fits (need := n + k) (old := cap) (bytes := 1) (by omega) (by omega)
  omega
 have h48' : ¬ (281474976710656 < Builtin.nextslicecap (n + k) cap) := by omega
 have hfo := run_firstCells_some (P := Tryd.prog) w.drew i.size n ⟨g, 0, none⟩ n cap xs (by rw [hs, hx, Nat.mul_one]) (by simpa using hcell)
 rw [hs] at hfo
 by_cases hne : k = 0
 · omega
 · simp [Builtin.append_, run_underlying Tryd.underlying24, run_underlying Tryd.underlying3, sizeOf, typeInfo, zeroValue, hi, hs, hy, hz, asInt, asIntOf, wr, h48, h0, hn, hne, h63', h48', Question.forced, hfo, newRow, grownCap, zc1, zeroCells_bytes]
theorem hgrown_row (w : World) (g : Nat) (cs : Array Value) : w.grownBy (w.setRow g cs) (some g) :=
 ⟨rfl, rfl, rfl, by rw [setRow_size]; exact Nat.le_refl _, fun k _ hne => setRow_other w g k cs (fun e => hne (by rw [e]))⟩
theorem grown_below {w w' : World} (h : Below w.heap.size w w') (row : Option Nat) : w.grownBy w' row := ⟨h.os, h.tape, h.output, h.size, fun k hk _ => h.block k hk⟩
theorem append_noughts (B : Nat) (w : World) (ty : TypeId) (v : Value) (l : List Nat) (hv : OwL B w v l) (hsome : v.ownBlock.isSome = true) (k : Nat) (hlk : l.length + k ≤ 1000) (hk : k < 256) (hk0 : 0 < k) (hB : B ≤ w.heap.size) :
  ∃ v' w', (Builtin.append_ #[24, 3] ty #[v, .int .i64 k]).run Tryd.prog w = .ok v' w' ∧ OwL B w' v' (l ++ List.replicate k 0) ∧ w.grownBy w' v.ownBlock ∧ (v'.ownBlock = v.ownBlock ∨ v'.ownBlock = some w.heap.size) := by
 obtain ⟨hl, hr⟩ := hv
 rcases hr with ⟨rfl, _⟩ | ⟨g, cap, cur, rfl, hBg, hg, hnc, hcm, hcs, htake⟩
 · cases hsome
 have hown : w.ownsRow B 5 1 (.slice (some ⟨g, 0, none⟩) l.length cap) l.length (vals l) := ⟨hl, .inr ⟨g, cap, cur, rfl, hBg, hg, hnc, hcm, hcs, htake⟩⟩
 rw [Nat.mul_one] at hcs htake
 have bl := zB_length k
 have blf := vals_length l
 have ev : vals (l ++ List.replicate k 0) = vals l ++ zB k := vals_append _ _
 have el : (l ++ List.replicate k 0).length = l.length + k := by rw [List.length_append, List.length_replicate]
 by_cases hroom : l.length + k ≤ cap
 ·
  refine ⟨_, _, noughts_room w ty g l.length cap k cur hg hcs hroom hk hk0, ⟨by rw [vals_length, Nat.mul_one], .inr ⟨g, cap, _, by rw [el], hBg, setRow_heap w g cur _ 5 _ hg, by rw [el]; exact hroom, hcm, ?_, ?_⟩⟩, hgrown_row w g _, Or.inl rfl⟩
  ·
   simp only [List.size_toArray, List.length_append, List.length_take, List.length_drop, Array.length_toList, bl]
   omega
  ·
   rw [htake, ev, Nat.mul_one, el]
   simp only [List.append_assoc]
   rw [← List.append_assoc]
   refine List.take_left' ?_
   rw [List.length_append, bl, blf]
 ·
  have hge := grownCap_ge w (l.length + k) cap 5
  have hcm2 : grownCap w (l.length + k) cap 5 ≤ maxLen := grownCap_le_maxLen w (l.length + k) cap 5 (by simp only [maxLen]; omega)
  refine ⟨_, _, noughts_grow w ty g l.length cap k cur hg (vals l) blf (hown.cells (g := g) rfl) (by omega) hnc hk hlk, ⟨by rw [vals_length, Nat.mul_one], .inr ⟨w.heap.size, _, _, by rw [el], hB, heap_alloc_new w.drew _, by rw [el]; exact hge, hcm2, ?_, ?_⟩⟩, grown_below ((below_drew (Below.refl _ _)).alloc (Nat.le_refl _) _) _, Or.inr rfl⟩
  ·
   simp only [Array.size_append, List.size_toArray, vals_length, zB_length]
   omega
  ·
   rw [ev, Nat.mul_one, el]
   simp only [Array.toList_append]
   refine List.take_left' ?_
   rw [List.length_append, bl, blf]
/-- A row of one's own that has a block. -/
structure Own1 (B : Nat) (w : World) (v : Value) (l : List Nat) : Prop where
 own : OwL B w v l
 some_ : v.ownBlock.isSome = true
/-- Two rows of one's own, of two blocks. -/
structure Own2 (B : Nat) (w : World) (v : Value) (l : List Nat) (u : Value) (m : List Nat) : Prop where
 fst : Own1 B w v l
 snd : Own1 B w u m
 ne : v.ownBlock ≠ u.ownBlock
theorem Own2.swap {B : Nat} {w : World} {v u : Value} {l m : List Nat} (h : Own2 B w v l u m) : Own2 B w u m v l := ⟨h.snd, h.fst, h.ne.symm⟩
theorem Own1.at_ {B : Nat} {w : World} {v : Value} {l : List Nat} (h : Own1 B w v l) : ∃ g, v.ownBlock = some g ∧ B ≤ g ∧ g < w.heap.size := by
 obtain ⟨g, hg⟩ := Option.isSome_iff_exists.1 h.some_
 exact ⟨g, hg, h.own.lt g hg⟩
theorem Own1.build (B : Nat) (w : World) (hB : B ≤ w.heap.size) : Own1 B (w.alloc (.cells #[] 5)) (.slice (some ⟨w.heap.size, 0, none⟩) 0 0) [] := ⟨ow_none B w hB, rfl⟩
theorem Own1.two {B : Nat} {w : World} {v : Value} {l : List Nat} (h : Own1 B w v l) (hB : B ≤ w.heap.size) : Own2 B (w.alloc (.cells #[] 5)) v l (.slice (some ⟨w.heap.size, 0, none⟩) 0 0) [] := by
 obtain ⟨g, hg, _, hl⟩ := h.at_
 exact ⟨⟨h.own.below ((Below.refl _ _).alloc (Nat.le_refl _) _), h.some_⟩, Own1.build B w hB, by rw [hg]; intro e; have := Option.some.inj e; dsimp only at this; omega⟩
/-- What a call did that let a row grow, beside another one. -/
theorem Own2.grow {B : Nat} {w w' : World} {v v' u : Value} {l l' m : List Nat} (h : Own2 B w v l u m) (O : OwL B w' v' l') (g : w.grownBy w' v.ownBlock) (e : v'.ownBlock = v.ownBlock ∨ v'.ownBlock = some w.heap.size) : Own2 B w' v' l' u m := by
 obtain ⟨a, ha, _, la⟩ := h.fst.at_
 obtain ⟨b, hb, _, lb⟩ := h.snd.at_
 have nab : a ≠ b := fun x => h.ne (by rw [ha, hb, x])
 refine ⟨⟨O, by rcases e with e | e <;> rw [e]; exact h.fst.some_; rfl⟩, ⟨h.snd.own.of_block fun k hk => ?_, h.snd.some_⟩, ?_⟩
 ·
  rw [hb] at hk
  have := Option.some.inj hk
  subst this
  exact g.block b lb (by rw [ha]; intro x; exact nab (Option.some.inj x).symm)
 ·
  rw [hb]
  rcases e with e | e
  · rw [e, ha]; intro x; exact nab (Option.some.inj x)
  · rw [e]; intro x; have := Option.some.inj x; omega
theorem Own1.grow {B : Nat} {w w' : World} {v v' : Value} {l l' : List Nat} (h : Own1 B w v l) (O : OwL B w' v' l') (e : v'.ownBlock = v.ownBlock ∨ v'.ownBlock = some w.heap.size) : Own1 B w' v' l' :=
 ⟨O, by rcases e with e | e <;> rw [e]; exact h.some_; rfl⟩
/-- Bytes, or noughts, behind a row of one's own, another one beside it. -/
theorem own2_bytes {B : Nat} {w0 w : World} {v u : Value} {l m : List Nat} (ty : TypeId) (x : Value) (k : List Nat) (h : Own2 B w v l u m) (hx : SB w x k) (hl : l.length + k.length ≤ 1000000) (b : Below B w0 w) (hB : B ≤ w.heap.size) :
  ∃ v' w', (Builtin.append_ #[24, 24] ty #[v, x]).run Tryd.prog w = .ok v' w' ∧ Own2 B w' v' (l ++ k) u m ∧ Below B w0 w' := by
 obtain ⟨v', w', h1, h2, h3, h4⟩ := append_sb B w ty v x l k h.fst.own hx (by omega) hB
 exact ⟨v', w', h1, h.grow h2 h3 h4, below_grown' b h3 (fun j e => (h.fst.own.lt j e).1) hB⟩
theorem own1_bytes {B : Nat} {w0 w : World} {v : Value} {l : List Nat} (ty : TypeId) (x : Value) (k : List Nat) (h : Own1 B w v l) (hx : SB w x k) (hl : l.length + k.length ≤ 1000000) (b : Below B w0 w) (hB : B ≤ w.heap.size) :
  ∃ v' w', (Builtin.append_ #[24, 24] ty #[v, x]).run Tryd.prog w = .ok v' w' ∧ Own1 B w' v' (l ++ k) ∧ Below B w0 w' := by
 obtain ⟨v', w', h1, h2, h3, h4⟩ := append_sb B w ty v x l k h.own hx (by omega) hB
 exact ⟨v', w', h1, h.grow h2 h4, below_grown' b h3 (fun j e => (h.own.lt j e).1) hB⟩
theorem own2_noughts {B : Nat} {w0 w : World} {v u : Value} {l m : List Nat} (ty : TypeId) (k : Nat) (hk : k < 256) (hk0 : 0 < k) (h : Own2 B w v l u m) (hl : l.length + k ≤ 1000) (b : Below B w0 w) (hB : B ≤ w.heap.size) :
  ∃ v' w', (Builtin.append_ #[24, 3] ty #[v, .int .i64 k]).run Tryd.prog w = .ok v' w' ∧ Own2 B w' v' (l ++ List.replicate k 0) u m ∧ Below B w0 w' := by
 obtain ⟨v', w', h1, h2, h3, h4⟩ := append_noughts B w ty v l h.fst.own h.fst.some_ k hl hk hk0 hB
 exact ⟨v', w', h1, h.grow h2 h3 h4, below_grown' b h3 (fun j e => (h.fst.own.lt j e).1) hB⟩
theorem own1_noughts {B : Nat} {w0 w : World} {v : Value} {l : List Nat} (ty : TypeId) (k : Nat) (hk : k < 256) (hk0 : 0 < k) (h : Own1 B w v l) (hl : l.length + k ≤ 1000) (b : Below B w0 w) (hB : B ≤ w.heap.size) :
  ∃ v' w', (Builtin.append_ #[24, 3] ty #[v, .int .i64 k]).run Tryd.prog w = .ok v' w' ∧ Own1 B w' v' (l ++ List.replicate k 0) ∧ Below B w0 w' := by
 obtain ⟨v', w', h1, h2, h3, h4⟩ := append_noughts B w ty v l h.own h.some_ k hl hk hk0 hB
 exact ⟨v', w', h1, h.grow h2 h4, below_grown' b h3 (fun j e => (h.own.lt j e).1) hB⟩
theorem Own1.below {B : Nat} {w w' : World} {v : Value} {l : List Nat} (h : Own1 B w v l) (b : Below w.heap.size w w') : Own1 B w' v l := ⟨h.own.below b, h.some_⟩
theorem Own2.below {B : Nat} {w w' : World} {v u : Value} {l m : List Nat} (h : Own2 B w v l u m) (b : Below w.heap.size w w') : Own2 B w' v l u m := ⟨h.fst.below b, h.snd.below b, h.ne⟩
theorem Own1.slice {B : Nat} {w : World} {v : Value} {l : List Nat} (h : Own1 B w v l) : ∃ g c, v = .slice (some ⟨g, 0, none⟩) l.length c ∧ B ≤ g ∧ l.length ≤ c ∧ BA w g 0 l := by
 rcases h.own.row with ⟨rfl, _⟩ | ⟨g, c, rfl, hg, hc, _, A, _⟩
 ·
  have := h.some_
  cases this
 · exact ⟨g, c, rfl, hg, hc, A⟩
/-- The first eight of bytes with noughts behind. -/
def pad8 (l : List Nat) : List Nat := (l ++ List.replicate 8 0).take 8
theorem pad8_length (l : List Nat) : (pad8 l).length = 8 := by
 unfold pad8
 rw [List.length_take, List.length_append, List.length_replicate]
 omega
theorem pad8_bytes {l : List Nat} (h : Bytes l) : Bytes (pad8 l) := (h.append (Bytes.replicate 8 (by decide))).take 8
theorem sb_set {w : World} {v : Value} {l : List Nat} {a : Nat} (h : SB w v l) (ne : ∀ g o n c, v = .slice (some ⟨g, o, none⟩) n c → g ≠ a) (i : Nat) (x : Value) : SB (w.setCell ⟨a, i, none⟩ x) v l := by
 obtain ⟨p, c, rfl, hc, h1⟩ := h
 rcases h1 with h1 | ⟨g, o, rfl, A⟩
 · exact ⟨_, _, rfl, hc, Or.inl h1⟩
 · exact ⟨_, _, rfl, hc, Or.inr ⟨_, _, rfl, A.of_block (heap_setCell_other w _ _ x (ne _ _ _ _ rfl))⟩⟩
end Go.Proofs.YtpihgljdbpnehaaDoor
