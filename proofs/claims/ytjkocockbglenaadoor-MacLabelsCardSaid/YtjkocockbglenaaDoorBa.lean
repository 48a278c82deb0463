/- Bytes as lists: slices that read as bytes, slices of them; Sum256 as a function on lists. -/
import Derived.Test.YtjkocockbglenaaDoorHi
namespace Go.Proofs.YtjkocockbglenaaDoor
open Go.RowKit

def NI (l : List Nat) : List Int := l.map fun x => ((x : Nat) : Int)
theorem NI_length (l : List Nat) : (NI l).length = l.length := by simp [NI]
theorem NI_get (l : List Nat) (i : Nat) (h : i < l.length) : (Iv .u8 (NI l))[i]? = some (.int .u8 ((l[i] : Nat) : Int)) := by
  rw [Iv_get _ _ _ (by rw [NI_length]; exact h)]
  simp [NI, h]
theorem NI_inj {a b : List Nat} (h : NI a = NI b) : a = b := by
  unfold NI at h
  exact (List.map_inj_right fun x y e => by omega).1 h
/-- Every number is a byte. -/
def Bytes (l : List Nat) : Prop := ∀ x ∈ l, x < 256
theorem Bytes.nil : Bytes [] := fun _ h => by cases h
theorem Bytes.append {a b : List Nat} (ha : Bytes a) (hb : Bytes b) : Bytes (a ++ b) := fun x h => (List.mem_append.1 h).elim (ha x) (hb x)
theorem Bytes.take {a : List Nat} (ha : Bytes a) (n : Nat) : Bytes (a.take n) := fun x h => ha x (List.mem_of_mem_take h)
theorem Bytes.drop {a : List Nat} (ha : Bytes a) (n : Nat) : Bytes (a.drop n) := fun x h => ha x (List.mem_of_mem_drop h)
theorem Bytes.flatten {ls : List (List Nat)} (h : ∀ l ∈ ls, Bytes l) : Bytes ls.flatten := fun x hx => by
  obtain ⟨l, hl, hxl⟩ := List.mem_flatten.1 hx
  exact h l hl x hxl
theorem Bytes.getD {a : List Nat} (ha : Bytes a) (i : Nat) : a.getD i 0 < 256 := by
  by_cases h : i < a.length
  · simp [h]; exact ha _ (List.getElem_mem h)
  · rw [List.getD_eq_getElem?_getD, List.getElem?_eq_none (by omega)]
    decide
theorem Bytes.replicate (n : Nat) {x : Nat} (hx : x < 256) : Bytes (List.replicate n x) := fun y hy => by
  rw [(List.mem_replicate.1 hy).2]
  exact hx

/-- The bytes l lie in block g, from cell o on. -/
structure BA (w : World) (g o : Nat) (l : List Nat) : Prop where
  cell : ∀ (i : Nat) (h : i < l.length), w.cell? ⟨g, o + i, none⟩ = some (.int .u8 ((l[i] : Nat) : Int))
  blk : g < w.heap.size
theorem BA.below {w w1 : World} {g o : Nat} {l : List Nat} (h : BA w g o l) (hb : Below w.heap.size w w1) : BA w1 g o l :=
  ⟨fun i hi => (hb.cell (p := ⟨g, o + i, none⟩) h.blk).trans (h.cell i hi), Nat.lt_of_lt_of_le h.blk hb.size⟩
theorem BA.of_block {w w1 : World} {g o : Nat} {l : List Nat} (h : BA w g o l) (hb : w1.heap[g]? = w.heap[g]?) : BA w1 g o l := by
  have hlt : g < w1.heap.size := by
    rcases Nat.lt_or_ge g w1.heap.size with h1 | h1
    · exact h1
    · rw [Array.getElem?_eq_none h1, Array.getElem?_eq_getElem h.blk] at hb
      cases hb
  exact ⟨fun i hi => (cell_congr hb).trans (h.cell i hi), hlt⟩
theorem BA.drew {w : World} {g o : Nat} {l : List Nat} (h : BA w g o l) : BA w.drew g o l := ⟨h.cell, h.blk⟩
theorem BA.of_blk {w : World} {g : Nat} {t : TypeId} {l : List Nat} (h : Blk w g t (Iv .u8 (NI l))) : BA w g 0 l :=
  ⟨fun i hi => by rw [Nat.zero_add, h.cell, NI_get _ _ hi], h.lt⟩
theorem BA.take {w : World} {g o : Nat} {l : List Nat} (h : BA w g o l) (n : Nat) : BA w g o (l.take n) :=
  ⟨fun i hi => by
    have hl : i < l.length := by rw [List.length_take] at hi; omega
    rw [h.cell i hl, List.getElem_take], h.blk⟩
theorem BA.drop {w : World} {g o : Nat} {l : List Nat} (h : BA w g o l) (n : Nat) : BA w g (o + n) (l.drop n) :=
  ⟨fun i hi => by
    have hl : n + i < l.length := by rw [List.length_drop] at hi; omega
    rw [Nat.add_assoc, h.cell (n + i) hl, List.getElem_drop], h.blk⟩
/-- A slice that reads as the bytes l; an empty one may be nil. -/
def SB (w : World) (v : Value) (l : List Nat) : Prop := ∃ p c, v = .slice p l.length c ∧ l.length ≤ c ∧ (l = [] ∨ ∃ g o, p = some ⟨g, o, none⟩ ∧ BA w g o l)
theorem SB.below {w w1 : World} {v : Value} {l : List Nat} (h : SB w v l) (hb : Below w.heap.size w w1) : SB w1 v l := by
  obtain ⟨p, c, h1, h2, h3⟩ := h
  refine ⟨p, c, h1, h2, ?_⟩
  rcases h3 with h3 | ⟨g, o, h4, h5⟩
  · exact Or.inl h3
  · exact Or.inr ⟨g, o, h4, h5.below hb⟩
theorem SB.drew {w : World} {v : Value} {l : List Nat} (h : SB w v l) : SB w.drew v l := h.below (below_drew (Below.refl _ _))
theorem SB.of_ba {w : World} {g o c : Nat} {l : List Nat} (h : BA w g o l) (hc : l.length ≤ c) : SB w (.slice (some ⟨g, o, none⟩) l.length c) l := ⟨_, c, rfl, hc, Or.inr ⟨g, o, rfl, h⟩⟩
theorem SB.of_ba' {w : World} {g o c n : Nat} {l : List Nat} (h : BA w g o l) (hn : n = l.length) (hc : l.length ≤ c) : SB w (.slice (some ⟨g, o, none⟩) n c) l := hn ▸ SB.of_ba h hc
theorem SB.nil (w : World) (p : Option Addr) (c : Nat) : SB w (.slice p 0 c) [] := ⟨p, c, rfl, Nat.zero_le _, Or.inl rfl⟩
/-- A slice of such slices. -/
def SP (w : World) (v : Value) (ls : List (List Nat)) : Prop := ∃ p c, v = .slice p ls.length c ∧ ls.length ≤ c ∧ (ls = [] ∨ ∃ g o, p = some ⟨g, o, none⟩ ∧ g < w.heap.size ∧ ∀ (i : Nat) (h : i < ls.length), ∃ u, w.cell? ⟨g, o + i, none⟩ = some u ∧ SB w u ls[i])
theorem SP.below {w w1 : World} {v : Value} {ls : List (List Nat)} (h : SP w v ls) (hb : Below w.heap.size w w1) : SP w1 v ls := by
  obtain ⟨p, c, h1, h2, h3⟩ := h
  refine ⟨p, c, h1, h2, ?_⟩
  rcases h3 with h3 | ⟨g, o, h4, h5, h6⟩
  · exact Or.inl h3
  · refine Or.inr ⟨g, o, h4, Nat.lt_of_lt_of_le h5 hb.size, fun i hi => ?_⟩
    obtain ⟨u, hu, hs⟩ := h6 i hi
    exact ⟨u, (hb.cell (p := ⟨g, o + i, none⟩) h5).trans hu, hs.below hb⟩
theorem SP.drew {w : World} {v : Value} {ls : List (List Nat)} (h : SP w v ls) : SP w.drew v ls := h.below (below_drew (Below.refl _ _))

/-- The bytes behind n. -/
def endL (n : Nat) : List Nat := (List.range (roomOf n)).map (endK n 8)
def padded (l : List Nat) : List Nat := l ++ endL l.length
/-- The sum of bytes, by lists; cu, sq: the tables. -/
def sha (cu sq : Nat → Nat) (l : List Nat) : List Nat := (List.range 32).map (sumB (hashK cu (sq32 sq) (fun i => (padded l).getD i 0) ((l.length + roomOf l.length) / 64)))
theorem sha_length (cu sq : Nat → Nat) (l : List Nat) : (sha cu sq l).length = 32 := by simp [sha]
theorem sha_bytes (cu sq : Nat → Nat) (l : List Nat) : Bytes (sha cu sq l) := fun x h => by
  unfold sha at h
  obtain ⟨i, _, rfl⟩ := List.mem_map.1 h
  exact Nat.mod_lt _ (by decide)
theorem sha_NI (cu sq : Nat → Nat) (l : List Nat) : BL 32 (sumB (hashK cu (sq32 sq) (fun i => (padded l).getD i 0) ((l.length + roomOf l.length) / 64))) = NI (sha cu sq l) := by
  unfold sha NI BL
  rw [List.map_map]
  rfl
theorem endL_bytes (n : Nat) : Bytes (endL n) := fun x h => by
  obtain ⟨i, _, rfl⟩ := List.mem_map.1 h
  exact endK_lt _ _ _
theorem padded_bytes {l : List Nat} (h : Bytes l) : Bytes (padded l) := h.append (endL_bytes _)

theorem flat_take_succ (ls : List (List Nat)) (i : Nat) : (ls.take (i + 1)).flatten.length = (ls.take i).flatten.length + (ls.getD i []).length := by
  by_cases h : i < ls.length
  · rw [← List.take_append_getElem h, List.flatten_append, List.length_append, List.getD_eq_getElem?_getD, List.getElem?_eq_getElem h]
    simp
  · rw [List.take_of_length_le (show ls.length ≤ i + 1 by omega), List.take_of_length_le (show ls.length ≤ i by omega), List.getD_eq_getElem?_getD, List.getElem?_eq_none (show ls.length ≤ i by omega)]
    simp
theorem flat_get (ls : List (List Nat)) (i j : Nat) (hi : i < ls.length) (hj : j < ls[i].length) : ls.flatten[(ls.take i).flatten.length + j]? = some ls[i][j] := by
  have e : ls.flatten = (ls.take i).flatten ++ (ls[i] ++ (ls.drop (i + 1)).flatten) := by
    conv => lhs; rw [← List.take_append_drop i ls]
    rw [List.flatten_append, List.drop_eq_getElem_cons hi]
    rfl
  rw [e, List.getElem?_append_right (by omega), Nat.add_sub_cancel_left, List.getElem?_append_left hj, List.getElem?_eq_getElem hj]

set_option maxHeartbeats 1000000 in
theorem sum256_l (cu sq : Nat → Nat) (w : World) (v : Value) (ls : List (List Nat)) (T : Tab w cu) (S : Sq w sq) (hp : SP w v ls) (hb : ∀ l ∈ ls, Bytes l) (hn : ls.length < 4611686018427387904) (hl : ls.flatten.length < 2305843009213693952) :
    Calls Tryd.prog 19 #[v] w fun e w' => e = .returned (.agg (Iv .u8 (NI (sha cu sq ls.flatten)))) ∧ Below w.heap.size w w' := by
  obtain ⟨p, c, rfl, hc, hls⟩ := hp
  have off_all : (ls.take ls.length).flatten.length = ls.flatten.length := by rw [List.take_length]
  have hbf := Bytes.flatten hb
  have key : ∀ (g o : Nat), (0 < ls.length → p = some ⟨g, o, none⟩) → (0 < ls.length → g < w.heap.size) → (∀ (i : Nat) (h : i < ls.length), ∃ u, w.cell? ⟨g, o + i, none⟩ = some u ∧ SB w u ls[i]) →
      Parts w p g o ls.length (fun i => (ls.getD i []).length) (fun i => (ls.take i).flatten.length) (fun i => (padded ls.flatten).getD i 0) := by
    intro g o h1 h2 h3
    refine ⟨h1, fun i hi => ?_, h2, by simp, fun i => flat_take_succ ls i, by rw [off_all]; exact hl⟩
    obtain ⟨u, hu, q, cq, rfl, hq, hr⟩ := h3 i hi
    have eg : ls.getD i [] = ls[i] := by simp [hi]
    rw [eg]
    have fin : ∀ (g2 o2 : Nat), g2 < w.heap.size → (0 < ls[i].length → q = some ⟨g2, o2, none⟩) → (∀ (j : Nat) (hj : j < ls[i].length), w.cell? ⟨g2, o2 + j, none⟩ = some (.int .u8 ((ls[i][j] : Nat) : Int))) →
        ∃ q' : Option Addr, ∃ c' g' o' : Nat, w.cell? ⟨g, o + i, none⟩ = some (.slice q' ls[i].length c') ∧ ls[i].length ≤ c' ∧ g' < w.heap.size ∧ (0 < ls[i].length → q' = some ⟨g', o', none⟩) ∧ ∀ j, j < ls[i].length → w.cell? ⟨g', o' + j, none⟩ = some (.int .u8 (((padded ls.flatten).getD ((ls.take i).flatten.length + j) 0 : Nat) : Int)) := by
      intro g2 o2 k1 k2 k3
      refine ⟨q, cq, g2, o2, hu, hq, k1, k2, fun j hj => ?_⟩
      rw [k3 j hj]
      have hg := flat_get ls i j hi hj
      have hlt : (ls.take i).flatten.length + j < ls.flatten.length := by
        rcases Nat.lt_or_ge ((ls.take i).flatten.length + j) ls.flatten.length with h | h
        · exact h
        · rw [List.getElem?_eq_none h] at hg
          cases hg
      rw [List.getD_eq_getElem?_getD]
      unfold padded
      rw [List.getElem?_append_left hlt, hg]
      rfl
    rcases hr with h0 | ⟨g2, o2, rfl, hba⟩
    · rw [h0]
      refine ⟨q, cq, g, 0, ?_, by rw [h0] at hq; exact hq, h2 (by omega), fun h => by simp at h, fun j hj => by simp at hj⟩
      rw [hu, h0]
    · exact fin g2 o2 hba.blk (fun _ => rfl) hba.cell
  have hm : ∀ i, i < roomOf ((ls.take ls.length).flatten.length) → (padded ls.flatten).getD ((ls.take ls.length).flatten.length + i) 0 = endK ((ls.take ls.length).flatten.length) 8 i := by
    intro i hi
    rw [off_all] at hi ⊢
    rw [List.getD_eq_getElem?_getD]
    unfold padded
    rw [List.getElem?_append_right (by omega), Nat.add_sub_cancel_left]
    unfold endL
    rw [List.getElem?_map, List.getElem?_range hi]
    rfl
  have fin : ∀ g o, Parts w p g o ls.length (fun i => (ls.getD i []).length) (fun i => (ls.take i).flatten.length) (fun i => (padded ls.flatten).getD i 0) →
      Calls Tryd.prog 19 #[.slice p ls.length c] w fun e w' => e = .returned (.agg (Iv .u8 (NI (sha cu sq ls.flatten)))) ∧ Below w.heap.size w w' := by
    intro g o P
    have h := sum256_any cu sq _ _ _ w p g o ls.length c T S (fun i => (padded_bytes hbf).getD i) P hn hm
    rw [off_all, sha_NI] at h
    exact h
  rcases hls with h0 | ⟨g, o, rfl, hg, hcell⟩
  · exact fin 0 0 (key 0 0 (fun h => by rw [h0] at h; simp at h) (fun h => by rw [h0] at h; simp at h) (fun i hi => by rw [h0] at hi; simp at hi))
  · exact fin g o (key g o (fun _ => rfl) (fun _ => hg) hcell)

/-- Each byte joined with another one by exclusive-or. -/
def xorL (c : Nat) (k : List Nat) : List Nat := k.map (· ^^^ c)
theorem xorL_length (c : Nat) (k : List Nat) : (xorL c k).length = k.length := by simp [xorL]
theorem xor256 (a b : Nat) (ha : a < 256) (hb : b < 256) : a ^^^ b < 256 := Nat.xor_lt_two_pow (n := 8) ha hb
theorem xorL_bytes {c : Nat} {k : List Nat} (hc : c < 256) (hk : Bytes k) : Bytes (xorL c k) := fun x h => by
  obtain ⟨y, hy, rfl⟩ := List.mem_map.1 h
  exact xor256 _ _ (hk y hy) hc
/-- A key of 64 bytes. -/
def keyPad (cu sq : Nat → Nat) (key : List Nat) : List Nat := let k := if 64 < key.length then sha cu sq key else key; k ++ List.replicate (64 - k.length) 0
theorem keyPad_length (cu sq : Nat → Nat) (key : List Nat) : (keyPad cu sq key).length = 64 := by
  unfold keyPad
  by_cases h : 64 < key.length
  · simp [h, sha_length]
  · simp [h]; omega
theorem keyPad_bytes (cu sq : Nat → Nat) {key : List Nat} (h : Bytes key) : Bytes (keyPad cu sq key) := by
  unfold keyPad
  by_cases hl : 64 < key.length
  · simp only [hl, if_true]
    exact (sha_bytes _ _ _).append (Bytes.replicate _ (by decide))
  · simp only [hl, if_false]
    exact h.append (Bytes.replicate _ (by decide))
/-- The sum with a key. -/
def hmac (cu sq : Nat → Nat) (key msg : List Nat) : List Nat := sha cu sq (xorL 92 (keyPad cu sq key) ++ sha cu sq (xorL 54 (keyPad cu sq key) ++ msg))
theorem hmac_length (cu sq : Nat → Nat) (key msg : List Nat) : (hmac cu sq key msg).length = 32 := sha_length _ _ _
theorem hmac_bytes (cu sq : Nat → Nat) (key msg : List Nat) : Bytes (hmac cu sq key msg) := sha_bytes _ _ _
end Go.Proofs.YtjkocockbglenaaDoor
