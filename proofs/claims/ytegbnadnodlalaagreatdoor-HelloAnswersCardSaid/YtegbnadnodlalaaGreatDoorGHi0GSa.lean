/- sha2: the contract of Sum512. Bytes as lists: slices that read as bytes, slices of them; Sum512 as a function on lists. Contracts of scalar's words, bytes: 32 bytes as four words of 64 bits, and back. -/
import Derived.Test.YtegbnadnodlalaaGreatDoorGHf0GHh
import Derived.Deep.MidRow
import Derived.Test.YtegbnadnodlalaaGreatDoorGRc0Lf
import Derived.Test.YtegbnadnodlalaaGreatDoorLk
namespace Go.Proofs.YtegbnadnodlalaaGreatDoor.H5
open Go.RowKit
/-- The table of square roots. -/
structure Sq (w : World) (sq : Nat → Nat) : Prop where
 cell : ∀ i, i < 8 → w.cell? ⟨0, i, none⟩ = some (.int .u64 ((sq i : Nat) : Int))
 lt : ∀ i, sq i < 18446744073709551616
 blk : 0 < w.heap.size
/-- The sum's bytes, out of the words. -/
def sumB (wd : Nat → Nat) (i : Nat) : Nat := wd (i / 8) / 2 ^ (56 - i % 8 * 8) % 256
def sumK (wd : Nat → Nat) (k i : Nat) : Nat := if i < k then sumB wd i else 0
/-- The world with the result's cell. -/
def W1 (w : World) : World := w.alloc (.cells (Iv .u8 (List.replicate 64 0)) 48)
theorem W1_size (w : World) : (W1 w).heap.size = w.heap.size + 1 := size_alloc _ _
theorem W1_below (w : World) : Below w.heap.size w (W1 w) := (Below.refl _ _).alloc (Nat.le_refl _) _
theorem Sq.below {w w1 : World} {sq : Nat → Nat} (h : Sq w sq) (hb : Below w.heap.size w w1) : Sq w1 sq :=
 ⟨fun i hi => (hb.cell (p := ⟨0, i, none⟩) h.blk).trans (h.cell i hi), h.lt, Nat.lt_of_lt_of_le h.blk hb.size⟩
theorem Parts.below {w w1 : World} {pp : Option Addr} {gp op np : Nat} {len off m : Nat → Nat} (h : Parts w pp gp op np len off m) (hb : Below w.heap.size w w1) : Parts w1 pp gp op np len off m := by
 refine ⟨h.at_, fun i hi => ?_, fun h0 => Nat.lt_of_lt_of_le (h.blk h0) hb.size, h.zero, h.next, h.big⟩
 obtain ⟨p, c, g, o, c1, cl, gl, gp1, bs⟩ := h.cell i hi
 exact ⟨p, c, g, o, (hb.cell (p := ⟨gp, op + i, none⟩) (h.blk (by omega))).trans c1, cl, Nat.lt_of_lt_of_le gl hb.size, gp1, fun j hj => (hb.cell (p := ⟨g, o + j, none⟩) gl).trans (bs j hj)⟩
theorem BL_length (n : Nat) (f : Nat → Nat) : (BL n f).length = n := by simp [BL]
theorem info_B64 (f : Nat → Nat) : (Tryz.prog.info? 48).map (·.size) = some (Iv .u8 (BL 64 f)).size := by
 rw [Iv_size, BL_length]
 kernel_rfl
structure SuV (HK : Nat → Nat) (w1 wr : World) (k : Nat) : Prop where
 o : Blk wr w1.heap.size 48 (Iv .u8 (BL 64 (sumK HK k)))
 k : Below w1.heap.size w1 wr
theorem SuV.step {HK : Nat → Nat} {w1 wr : World} {k : Nat} (h : SuV HK w1 wr k) : SuV HK w1 (wr.setCell ⟨w1.heap.size, k, none⟩ (.int .u8 ((sumB HK k : Nat) : Int))) (k + 1) := by
 refine ⟨?_, h.k.setCell (by simp) _⟩
 have hs := h.o.set k (.int .u8 ((sumB HK k : Nat) : Int))
 rw [Iv_set] at hs
 have e := BL_set 64 (sumK HK k) (sumK HK (k + 1)) k (fun i hi => by unfold sumK; by_cases h : i < k <;> simp [h] <;> omega)
 rw [show sumK HK (k + 1) k = sumB HK k from if_pos (by omega)] at e
 rw [e] at hs
 exact hs
set_option maxHeartbeats 2000000 in
set_option maxRecDepth 100000 in
theorem sum512_any (cu sq m len off : Nat → Nat) (w : World) (pp : Option Addr) (gp op np cp : Nat) (T : Tab w cu) (S : Sq w sq)
  (ml : ∀ i, m i < 256) (hP : Parts w pp gp op np len off m) (hnp : np < 4611686018427387904) (hm : ∀ i, i < roomOf (off np) → m (off np + i) = endK (off np) 8 i) :
  Calls Tryz.prog 56 #[.slice pp np cp] w fun e w' => e = .returned (.agg (Iv .u8 (BL 64 (sumB (hashK cu sq m ((off np + roomOf (off np)) / 128)))))) ∧ Below w.heap.size w w' := by
 have S' := S.below (W1_below w)
 have T' := T.below (W1_below w)
 have P' := hP.below (W1_below w)
 have ws := W1_size w
 clear S T hP
 go_enter Tryz.func56, Tryz.ntmps56
 go_upto_region 1 with fail
 generalize hV1 : World.alloc w _ = V1
 obtain rfl : V1 = W1 w := hV1.symm
 clear hV1
 have RG : (W1 w).rangeAt 0 0 (Iv .u64 (W8 sq)).toList := by
  intro j v hj
  have hl : j < 8 := by
   have := (List.getElem?_eq_some_iff.1 hj).1
   simpa [Iv, W8] using this
  rw [Nat.zero_add]
  have e := W8_get sq j hl
  rw [← Array.getElem?_toList, hj] at e
  rw [Option.some.inj e]
  exact S'.cell j hl
 go_upto_region 2 with (first | (refine wpList_load_mid rfl 115 _ rfl 0 0 rfl (Iv .u64 (W8 sq)).toList _ RG Tryz.underlying115 rfl (info_W8 sq) ?_) | (refine wpList_store_row rfl 115 _ _ rfl (w.heap.size + 1) (Iv .u64 (W8 sq)) rfl rfl 115 _ (Blk.new' (by rw [ws]) _ _) (info_W8 sq) (by simp only [Iv_size, W8_length]; rfl) (Iv_one _ _) ?_))
 generalize hV : World.setRow _ _ _ = V2
 have k2 : Below (W1 w).heap.size (W1 w) V2 := by
  subst hV
  exact below_setRow ((Below.refl _ _).alloc (Nat.le_refl _) _) (by rw [ws]; exact Nat.le_refl _) _
 have F1 : Blk V2 (w.heap.size + 1) 115 (Iv .u64 (W8 sq)) := by
  subst hV
  exact (Blk.new' (by rw [ws]) _ _).row _
 clear hV RG
 have BC := Lib.hid (blocks_any cu sq m len off (w.heap.size + 1) (W1 w) V2 pp gp op np cp T' k2 (by rw [ws]; exact Nat.le_refl _) F1 ml (fun i _ => S'.lt i) P' hnp hm)
 go_wp2_with fail
 refine BC.out.mono ?_
 rintro _ w1 ⟨⟨v, rfl⟩, hw1, k1⟩
 clear BC
 have HKl : ∀ i, i < 8 → hashK cu sq m ((off np + roomOf (off np)) / 128) i < 18446744073709551616 := hashK_lt cu sq m (fun i _ => S'.lt i) _
 obtain ⟨HK, hHK⟩ : ∃ HK, HK = hashK cu sq m ((off np + roomOf (off np)) / 128) := ⟨_, rfl⟩
 rw [← hHK] at hw1 HKl
 have HH := Lib.hid hHK
 clear hHK
 go_wp2_with fail
 have R1 : Blk w1 w.heap.size 48 (Iv .u8 (List.replicate 64 0)) := (Blk.new w 48 (Iv .u8 (List.replicate 64 0))).below k1 (by omega)
 have wl1 := R1.lt
 have wl2 := hw1.lt
 generalize hV : World.alloc w1 _ = V
 have G0 : SuV HK w1 V 0 := by
  subst hV
  refine ⟨?_, (Below.refl _ _).alloc (Nat.le_refl _) _⟩
  rw [show BL 64 (sumK HK 0) = List.replicate 64 0 from by unfold sumK; simp only [Nat.not_lt_zero, if_neg, not_false_eq_true]; rfl]
  exact Blk.new _ _ _
 clear hV
 go_loopw [5, 10] (fun _ i wr => ∃ k : Nat, k ≤ 64 ∧ i = .int .i64 k ∧ SuV HK w1 wr k) (fun _ i _ => 64 - (intOf i).toNat)
 case atStart => exact ⟨0, by omega, rfl, G0⟩
 case round =>
  obtain ⟨k, hk, rfl, F⟩ := hrel
  clear G0
  by_cases hlt : k < 64
  ·
   have c1 : wr.cell? ⟨w.heap.size + 1, k / 8, none⟩ = some (.int .u64 ((HK (k / 8) : Nat) : Int)) := by
    rw [(hw1.below F.k wl2).cell, W8_get _ _ (by omega)]
   have c2 : wr.cell? ⟨w1.heap.size, k, none⟩ = some (.int .u8 ((sumK HK k k : Nat) : Int)) := by
    rw [F.o.cell, BL_get _ _ _ hlt]
   have f2 := F.o.frozen k
   have l1 := HKl (k / 8) (by omega)
   have i1 : ((k : Int) / 8).toNat = k / 8 := by omega
   have i2 : (0 : Int) ≤ (k : Int) / 8 := by omega
   have i3 : (k : Int) / 8 < 8 := by omega
   have i4 : IntKind.i64.wrap ((k : Int) / 8) = (k : Int) / 8 := by rw [IntKind.wrap_i64]; omega
   have i5 : IntKind.i64.wrap ((k : Int) % 8 * 8) = (k : Int) % 8 * 8 := by rw [IntKind.wrap_i64]; omega
   have i6 : IntKind.i64.wrap (56 - (k : Int) % 8 * 8) = 56 - (k : Int) % 8 * 8 := by rw [IntKind.wrap_i64]; omega
   have i7 : (0 : Int) ≤ 56 - (k : Int) % 8 * 8 := by omega
   have i8 : (56 - (k : Int) % 8 * 8).toNat = 56 - k % 8 * 8 := by omega
   have S1 := F.step
   rw [show ((sumB HK k : Nat) : Int) = ((HK (k / 8) : Nat) : Int) / 2 ^ (56 - k % 8 * 8) % 256 from by unfold sumB; push_cast; rfl] at S1
   have HS := Lib.hid S1
   clear F S1
   go_wp2
   exact ⟨⟨k + 1, by omega, by go_num, HS.out⟩, by simp [intOf]; omega⟩
  ·
   obtain rfl : k = 64 := by omega
   rw [show ((64 : Nat) : Int) = 64 from rfl]
   have HO := F.o
   rw [show BL 64 (sumK HK 64) = BL 64 (sumB HK) from List.map_congr_left fun j hj => by rw [show sumK HK 64 j = sumB HK j from if_pos (List.mem_range.1 hj)]] at HO
   have HR := R1.below F.k wl1
   have HB : Below w.heap.size w wr := (W1_below w).trans ((k1.trans (F.k.mono (by omega))).mono (by omega))
   clear F
   go_wp2_with (first | (refine wpList_load_row rfl 48 _ rfl (w1.heap.size) rfl 48 _ (0, 0) _ HO Tryz.underlying48 rfl (info_B64 _) ?_) | (refine wpList_store_row rfl 48 _ _ rfl (w.heap.size) (Iv .u8 (BL 64 (sumB HK))) rfl rfl 48 _ HR (info_B64 _) (by rw [Iv_size, Iv_size, BL_length]; rfl) (Iv_one _ _) ?_))
   exact bodyPost_ret (results_cell_row rfl _ _ _ 48 _ (0, 0) _ rfl (HR.row _) Tryz.underlying48 rfl (info_B64 _)) rfl ⟨by rw [HH.out], below_setRow HB (by omega) _⟩
end Go.Proofs.YtegbnadnodlalaaGreatDoor.H5
namespace Go.Proofs.YtegbnadnodlalaaGreatDoor.H5
open Go.RowKit
def NI (l : List Nat) : List Int := l.map fun x => ((x : Nat) : Int)
theorem NI_length (l : List Nat) : (NI l).length = l.length := by simp [NI]
theorem NI_get (l : List Nat) (i : Nat) (h : i < l.length) : (Iv .u8 (NI l))[i]? = some (.int .u8 ((l[i] : Nat) : Int)) := by
 rw [Iv_get _ _ _ (by rw [NI_length]; exact h)]
 simp [NI, h]
theorem NI_inj {a b : List Nat} (h : NI a = NI b) : a = b := by
 unfold NI at h
 exact (List.map_inj_right fun x y e => by omega).1 h
/-- Every number is a byte. -/
def Bytes (l : List Nat) : Prop := ∀ x ∈ l, x < 256
theorem Bytes.nil : Bytes [] := fun _ h => by cases h
theorem Bytes.append {a b : List Nat} (ha : Bytes a) (hb : Bytes b) : Bytes (a ++ b) := fun x h => (List.mem_append.1 h).elim (ha x) (hb x)
theorem Bytes.take {a : List Nat} (ha : Bytes a) (n : Nat) : Bytes (a.take n) := fun x h => ha x (List.mem_of_mem_take h)
theorem Bytes.drop {a : List Nat} (ha : Bytes a) (n : Nat) : Bytes (a.drop n) := fun x h => ha x (List.mem_of_mem_drop h)
theorem Bytes.flatten {ls : List (List Nat)} (h : ∀ l ∈ ls, Bytes l) : Bytes ls.flatten := fun x hx => by
 obtain ⟨l, hl, hxl⟩ := List.mem_flatten.1 hx
 exact h l hl x hxl
theorem Bytes.getD {a : List Nat} (ha : Bytes a) (i : Nat) : a.getD i 0 < 256 := by
 by_cases h : i < a.length
 · simp [h]; exact ha _ (List.getElem_mem h)
 ·
  rw [List.getD_eq_getElem?_getD, List.getElem?_eq_none (by omega)]
  decide
theorem Bytes.replicate (n : Nat) {x : Nat} (hx : x < 256) : Bytes (List.replicate n x) := fun y hy => by
 rw [(List.mem_replicate.1 hy).2]
 exact hx
/-- The bytes l lie in block g, from cell o on. -/
structure BA (w : World) (g o : Nat) (l : List Nat) : Prop where
 cell : ∀ (i : Nat) (h : i < l.length), w.cell? ⟨g, o + i, none⟩ = some (.int .u8 ((l[i] : Nat) : Int))
 blk : g < w.heap.size
theorem BA.below {w w1 : World} {g o : Nat} {l : List Nat} (h : BA w g o l) (hb : Below w.heap.size w w1) : BA w1 g o l :=
 ⟨fun i hi => (hb.cell (p := ⟨g, o + i, none⟩) h.blk).trans (h.cell i hi), Nat.lt_of_lt_of_le h.blk hb.size⟩
theorem BA.of_block {w w1 : World} {g o : Nat} {l : List Nat} (h : BA w g o l) (hb : w1.heap[g]? = w.heap[g]?) : BA w1 g o l := by
 have hlt : g < w1.heap.size := by
  rcases Nat.lt_or_ge g w1.heap.size with h1 | h1
  · exact h1
  ·
   rw [Array.getElem?_eq_none h1, Array.getElem?_eq_getElem h.blk] at hb
   cases hb
 exact ⟨fun i hi => (cell_congr hb).trans (h.cell i hi), hlt⟩
theorem BA.drew {w : World} {g o : Nat} {l : List Nat} (h : BA w g o l) : BA w.drew g o l := ⟨h.cell, h.blk⟩
theorem BA.of_blk {w : World} {g : Nat} {t : TypeId} {l : List Nat} (h : Blk w g t (Iv .u8 (NI l))) : BA w g 0 l :=
 ⟨fun i hi => by rw [Nat.zero_add, h.cell, NI_get _ _ hi], h.lt⟩
theorem BA.take {w : World} {g o : Nat} {l : List Nat} (h : BA w g o l) (n : Nat) : BA w g o (l.take n) :=
 ⟨fun i hi => by
  have hl : i < l.length := by rw [List.length_take] at hi; omega
  rw [h.cell i hl, List.getElem_take], h.blk⟩
theorem BA.drop {w : World} {g o : Nat} {l : List Nat} (h : BA w g o l) (n : Nat) : BA w g (o + n) (l.drop n) :=
 ⟨fun i hi => by
  have hl : n + i < l.length := by rw [List.length_drop] at hi; omega
  rw [Nat.add_assoc, h.cell (n + i) hl, List.getElem_drop], h.blk⟩
/-- A slice that reads as the bytes l; an empty one may be nil. -/
def SB (w : World) (v : Value) (l : List Nat) : Prop := ∃ p c, v = .slice p l.length c ∧ l.length ≤ c ∧ (l = [] ∨ ∃ g o, p = some ⟨g, o, none⟩ ∧ BA w g o l)
theorem SB.below {w w1 : World} {v : Value} {l : List Nat} (h : SB w v l) (hb : Below w.heap.size w w1) : SB w1 v l := by
 obtain ⟨p, c, h1, h2, h3⟩ := h
 refine ⟨p, c, h1, h2, ?_⟩
 rcases h3 with h3 | ⟨g, o, h4, h5⟩
 · exact Or.inl h3
 · exact Or.inr ⟨g, o, h4, h5.below hb⟩
theorem SB.drew {w : World} {v : Value} {l : List Nat} (h : SB w v l) : SB w.drew v l := h.below (below_drew (Below.refl _ _))
theorem SB.of_ba {w : World} {g o c : Nat} {l : List Nat} (h : BA w g o l) (hc : l.length ≤ c) : SB w (.slice (some ⟨g, o, none⟩) l.length c) l := ⟨_, c, rfl, hc, Or.inr ⟨g, o, rfl, h⟩⟩
theorem SB.of_ba' {w : World} {g o c n : Nat} {l : List Nat} (h : BA w g o l) (hn : n = l.length) (hc : l.length ≤ c) : SB w (.slice (some ⟨g, o, none⟩) n c) l := hn ▸ SB.of_ba h hc
theorem SB.nil (w : World) (p : Option Addr) (c : Nat) : SB w (.slice p 0 c) [] := ⟨p, c, rfl, Nat.zero_le _, Or.inl rfl⟩
/-- A slice of such slices. -/
def SP (w : World) (v : Value) (ls : List (List Nat)) : Prop := ∃ p c, v = .slice p ls.length c ∧ ls.length ≤ c ∧ (ls = [] ∨ ∃ g o, p = some ⟨g, o, none⟩ ∧ g < w.heap.size ∧ ∀ (i : Nat) (h : i < ls.length), ∃ u, w.cell? ⟨g, o + i, none⟩ = some u ∧ SB w u ls[i])
theorem SP.below {w w1 : World} {v : Value} {ls : List (List Nat)} (h : SP w v ls) (hb : Below w.heap.size w w1) : SP w1 v ls := by
 obtain ⟨p, c, h1, h2, h3⟩ := h
 refine ⟨p, c, h1, h2, ?_⟩
 rcases h3 with h3 | ⟨g, o, h4, h5, h6⟩
 · exact Or.inl h3
 ·
  refine Or.inr ⟨g, o, h4, Nat.lt_of_lt_of_le h5 hb.size, fun i hi => ?_⟩
  obtain ⟨u, hu, hs⟩ := h6 i hi
  exact ⟨u, (hb.cell (p := ⟨g, o + i, none⟩) h5).trans hu, hs.below hb⟩
theorem SP.drew {w : World} {v : Value} {ls : List (List Nat)} (h : SP w v ls) : SP w.drew v ls := h.below (below_drew (Below.refl _ _))
/-- The bytes behind n. -/
def endL (n : Nat) : List Nat := (List.range (roomOf n)).map (endK n 8)
def padded (l : List Nat) : List Nat := l ++ endL l.length
/-- The sum of bytes, by lists; cu, sq: the tables. -/
def sha (cu sq : Nat → Nat) (l : List Nat) : List Nat := (List.range 64).map (sumB (hashK cu sq (fun i => (padded l).getD i 0) ((l.length + roomOf l.length) / 128)))
theorem sha_length (cu sq : Nat → Nat) (l : List Nat) : (sha cu sq l).length = 64 := by simp [sha]
theorem sha_bytes (cu sq : Nat → Nat) (l : List Nat) : Bytes (sha cu sq l) := fun x h => by
 unfold sha at h
 obtain ⟨i, _, rfl⟩ := List.mem_map.1 h
 exact Nat.mod_lt _ (by decide)
theorem sha_NI (cu sq : Nat → Nat) (l : List Nat) : BL 64 (sumB (hashK cu sq (fun i => (padded l).getD i 0) ((l.length + roomOf l.length) / 128))) = NI (sha cu sq l) := by
 unfold sha NI BL
 rw [List.map_map]
 rfl
theorem endL_bytes (n : Nat) : Bytes (endL n) := fun x h => by
 obtain ⟨i, _, rfl⟩ := List.mem_map.1 h
 exact endK_lt _ _ _
theorem padded_bytes {l : List Nat} (h : Bytes l) : Bytes (padded l) := h.append (endL_bytes _)
theorem flat_take_succ (ls : List (List Nat)) (i : Nat) : (ls.take (i + 1)).flatten.length = (ls.take i).flatten.length + (ls.getD i []).length := by
 by_cases h : i < ls.length
 ·
  rw [← List.take_append_getElem h, List.flatten_append, List.length_append, List.getD_eq_getElem?_getD, List.getElem?_eq_getElem h]
  simp
 ·
  rw [List.take_of_length_le (show ls.length ≤ i + 1 by omega), List.take_of_length_le (show ls.length ≤ i by omega), List.getD_eq_getElem?_getD, List.getElem?_eq_none (show ls.length ≤ i by omega)]
  simp
theorem flat_get (ls : List (List Nat)) (i j : Nat) (hi : i < ls.length) (hj : j < ls[i].length) : ls.flatten[(ls.take i).flatten.length + j]? = some ls[i][j] := by
 have e : ls.flatten = (ls.take i).flatten ++ (ls[i] ++ (ls.drop (i + 1)).flatten) := by
  conv => lhs; rw [← List.take_append_drop i ls]
  rw [List.flatten_append, List.drop_eq_getElem_cons hi]
  rfl
 rw [e, List.getElem?_append_right (by omega), Nat.add_sub_cancel_left, List.getElem?_append_left hj, List.getElem?_eq_getElem hj]
set_option maxHeartbeats 1000000 in
theorem sum512_l (cu sq : Nat → Nat) (w : World) (v : Value) (ls : List (List Nat)) (T : Tab w cu) (S : Sq w sq) (hp : SP w v ls) (hb : ∀ l ∈ ls, Bytes l) (hn : ls.length < 4611686018427387904) (hl : ls.flatten.length < 2305843009213693952) :
  Calls Tryz.prog 56 #[v] w fun e w' => e = .returned (.agg (Iv .u8 (NI (sha cu sq ls.flatten)))) ∧ Below w.heap.size w w' := by
 obtain ⟨p, c, rfl, hc, hls⟩ := hp
 have off_all : (ls.take ls.length).flatten.length = ls.flatten.length := by rw [List.take_length]
 have hbf := Bytes.flatten hb
 have key : ∀ (g o : Nat), (0 < ls.length → p = some ⟨g, o, none⟩) → (0 < ls.length → g < w.heap.size) → (∀ (i : Nat) (h : i < ls.length), ∃ u, w.cell? ⟨g, o + i, none⟩ = some u ∧ SB w u ls[i]) →
   Parts w p g o ls.length (fun i => (ls.getD i []).length) (fun i => (ls.take i).flatten.length) (fun i => (padded ls.flatten).getD i 0) := by
  intro g o h1 h2 h3
  refine ⟨h1, fun i hi => ?_, h2, by simp, fun i => flat_take_succ ls i, by rw [off_all]; exact hl⟩
  obtain ⟨u, hu, q, cq, rfl, hq, hr⟩ := h3 i hi
  have eg : ls.getD i [] = ls[i] := by simp [hi]
  rw [eg]
  have fin : ∀ (g2 o2 : Nat), g2 < w.heap.size → (0 < ls[i].length → q = some ⟨g2, o2, none⟩) → (∀ (j : Nat) (hj : j < ls[i].length), w.cell? ⟨g2, o2 + j, none⟩ = some (.int .u8 ((ls[i][j] : Nat) : Int))) →
    ∃ q' : Option Addr, ∃ c' g' o' : Nat, w.cell? ⟨g, o + i, none⟩ = some (.slice q' ls[i].length c') ∧ ls[i].length ≤ c' ∧ g' < w.heap.size ∧ (0 < ls[i].length → q' = some ⟨g', o', none⟩) ∧ ∀ j, j < ls[i].length → w.cell? ⟨g', o' + j, none⟩ = some (.int .u8 (((padded ls.flatten).getD ((ls.take i).flatten.length + j) 0 : Nat) : Int)) := by
   intro g2 o2 k1 k2 k3
   refine ⟨q, cq, g2, o2, hu, hq, k1, k2, fun j hj => ?_⟩
   rw [k3 j hj]
   have hg := flat_get ls i j hi hj
   have hlt : (ls.take i).flatten.length + j < ls.flatten.length := by
    rcases Nat.lt_or_ge ((ls.take i).flatten.length + j) ls.flatten.length with h | h
    · exact h
    ·
     rw [List.getElem?_eq_none h] at hg
     cases hg
   rw [List.getD_eq_getElem?_getD]
   unfold padded
   rw [List.getElem?_append_left hlt, hg]
   rfl
  rcases hr with h0 | ⟨g2, o2, rfl, hba⟩
  ·
   rw [h0]
   refine ⟨q, cq, g, 0, ?_, by rw [h0] at hq; exact hq, h2 (by omega), fun h => by simp at h, fun j hj => by simp at hj⟩
   rw [hu, h0]
  · exact fin g2 o2 hba.blk (fun _ => rfl) hba.cell
 have hm : ∀ i, i < roomOf ((ls.take ls.length).flatten.length) → (padded ls.flatten).getD ((ls.take ls.length).flatten.length + i) 0 = endK ((ls.take ls.length).flatten.length) 8 i := by
  intro i hi
  rw [off_all] at hi ⊢
  rw [List.getD_eq_getElem?_getD]
  unfold padded
  rw [List.getElem?_append_right (by omega), Nat.add_sub_cancel_left]
  unfold endL
  rw [List.getElem?_map, List.getElem?_range hi]
  rfl
 have fin : ∀ g o, Parts w p g o ls.length (fun i => (ls.getD i []).length) (fun i => (ls.take i).flatten.length) (fun i => (padded ls.flatten).getD i 0) →
   Calls Tryz.prog 56 #[.slice p ls.length c] w fun e w' => e = .returned (.agg (Iv .u8 (NI (sha cu sq ls.flatten)))) ∧ Below w.heap.size w w' := by
  intro g o P
  have h := sum512_any cu sq _ _ _ w p g o ls.length c T S (fun i => (padded_bytes hbf).getD i) P hn hm
  rw [off_all, sha_NI] at h
  exact h
 rcases hls with h0 | ⟨g, o, rfl, hg, hcell⟩
 · exact fin 0 0 (key 0 0 (fun h => by rw [h0] at h; simp at h) (fun h => by rw [h0] at h; simp at h) (fun i hi => by rw [h0] at hi; simp at hi))
 · exact fin g o (key g o (fun _ => rfl) (fun _ => hg) hcell)
end Go.Proofs.YtegbnadnodlalaaGreatDoor.H5
namespace Go.Proofs.YtegbnadnodlalaaGreatDoor.Sc
open Go.RowKit
/-- Four words of a number. -/
def Nm_cells (n : Nat) : Array Value := Iv .u64 ((List.range 4).map fun j => ((wordAt n j : Nat) : Int))
def Nm (n : Nat) : Value := .agg (Nm_cells n)
theorem info_nm (n : Nat) : (Tryz.prog.info? 114).map (·.size) = some (Nm_cells n).size := by
 have i : (Tryz.prog.info? 114).map (·.size) = some 4 := by kernel_rfl
 rw [i, Nm_cells, Iv_size]
 rfl
theorem info_w4 (n : Nat) : (Tryz.prog.info? 113).map (·.size) = some (Nm_cells n).size := by
 have i : (Tryz.prog.info? 113).map (·.size) = some 4 := by kernel_rfl
 rw [i, Nm_cells, Iv_size]
 rfl
theorem Nm_one (n : Nat) : (Nm_cells n).all (·.oneCell') = true := Iv_one _ _
theorem Nm_size (n : Nat) : (Nm_cells n).size = 4 := by rw [Nm_cells, Iv_size]; rfl
theorem Nm_at (n j : Nat) (h : j < 4) : (Nm_cells n)[j]? = some (.int .u64 ((wordAt n j : Nat) : Int)) := by
 rw [Nm_cells, Iv_get _ _ _ (by simpa using h)]
 simp [h]
theorem Nm_zero : Nm_cells 0 = #[.int .u64 0, .int .u64 0, .int .u64 0, .int .u64 0] := by
 simp [Nm_cells, Iv, wordAt, List.range, List.range.loop]
/-- The memory of bytes behind k rounds. -/
structure SbyW (n : Nat) (w wr : World) (k : Nat) : Prop where
 words : Blk wr w.heap.size 114 (Nm_cells n)
 res : Blk wr (w.heap.size + 1) 23 (Iv .u8 (List.replicate 32 0))
 bytes : Blk wr (w.heap.size + 1 + 1) 23 (Iv .u8 (fill 32 (fun i => ((byteAt n i : Nat) : Int)) k))
 b : Below w.heap.size w wr
theorem SbyW.step {n : Nat} {w wr : World} {k : Nat} (h : SbyW n w wr k) :
  SbyW n w (wr.setCell ⟨w.heap.size + 1 + 1, k, none⟩ (.int .u8 (((wordAt n (k / 8) : Nat) : Int) / 2 ^ (k % 8 * 8) % 256))) (k + 1) := by
 have e : ((wordAt n (k / 8) : Nat) : Int) / 2 ^ (k % 8 * 8) % 256 = ((byteAt n k : Nat) : Int) := by
  rw [← byte_word, wordAt]
  simp only [Int.natCast_emod, Int.natCast_ediv, Int.natCast_pow]
  rfl
 rw [e]
 refine ⟨h.words.far (by simp; omega) _, h.res.far (by simp) _, ?_, h.b.setCell (by simp; omega) _⟩
 have := h.bytes.set k (.int .u8 ((byteAt n k : Nat) : Int))
 rw [Iv_set, fill_set 32 (fun i => ((byteAt n i : Nat) : Int)) k] at this
 exact this
set_option maxHeartbeats 1000000 in
set_option maxRecDepth 100000 in
theorem sbytes_any (n : Nat) (w : World) : Calls Tryz.prog 72 #[Nm n] w fun e w' => e = .returned (Key (keyOf n)) ∧ Below w.heap.size w w' := by
 unfold Nm
 go_enter Tryz.func72, Tryz.ntmps72
 go_wp2
 generalize hW : World.alloc (World.alloc (World.alloc w _) _) _ = W
 have F0 : SbyW n w W 0 := by
  subst hW
  exact ⟨((Blk.new _ _ _).alloc _).alloc _, (Blk.new' (by simp) _ _).alloc _, Blk.new' (by simp) _ _,
   (((Below.refl _ _).alloc (Nat.le_refl _) _).alloc (by simp) _).alloc (by simp; omega) _⟩
 clear hW
 go_loopw [5] (fun i wr => ∃ k : Nat, k ≤ 32 ∧ i = .int .i64 k ∧ SbyW n w wr k) (fun i _ => 32 - (intOf i).toNat)
 case atStart => exact ⟨0, by omega, rfl, F0⟩
 case round =>
  obtain ⟨k, hk, rfl, F⟩ := hrel
  by_cases hlt : k < 32
  ·
   have c4 : wr.cell? ⟨w.heap.size, k / 8, none⟩ = some (.int .u64 ((wordAt n (k / 8) : Nat) : Int)) := by
    rw [F.words.cell, Nm_at _ _ (by omega)]
   have c5 : wr.cell? ⟨w.heap.size + 1 + 1, k, none⟩ = some (.int .u8 0) := by
    rw [F.bytes.cell, Iv_get _ _ _ (by rw [fill_length]; omega), fill_getD _ _ _ _ hlt, if_neg (by omega)]
   have f5 := F.bytes.frozen k
   go_wp2
   exact ⟨⟨k + 1, by omega, by go_num, F.step⟩, by simp [intOf]; omega⟩
  ·
   obtain rfl : k = 32 := by omega
   have B5 := F.bytes
   have B2 := F.res
   rw [fill_full] at B5
   have hb := F.b
   clear F F0
   go_wp2_with (first | (refine wpList_load_row rfl 23 _ rfl (w.heap.size + 1 + 1) rfl 23 _ (0, 0) _ B5 Tryz.underlying23 rfl (info_key _ (by simp)) ?_) | (refine wpList_store_row rfl 23 _ _ rfl (w.heap.size + 1) _ rfl rfl 23 _ B2 (info_key _ (by simp)) (by simp [Iv_size]) (Iv_one _ _) ?_))
   exact bodyPost_ret (results_cell_row rfl _ _ _ 23 _ (0, 0) _ rfl (B2.row _) Tryz.underlying23 rfl (info_key _ (by simp))) rfl ⟨rfl, below_setRow hb (by omega) _⟩
/-- The memory of words behind k rounds. -/
structure SwoW (l : List Int) (f : Nat → Nat) (w wr : World) (k : Nat) : Prop where
 key : Blk wr w.heap.size 23 (Iv .u8 l)
 res : Blk wr (w.heap.size + 1) 113 (Nm_cells 0)
 words : Blk wr (w.heap.size + 1 + 1) 113 (Nm_cells (leTo f k))
 b : Below w.heap.size w wr
theorem SwoW.drew {l : List Int} {f : Nat → Nat} {w wr : World} {k : Nat} (h : SwoW l f w wr k) : SwoW l f w wr.drew k := ⟨h.key, h.res, h.words, below_drew h.b⟩
theorem SwoW.step {l : List Int} {f : Nat → Nat} {w wr : World} {k : Nat} (h : SwoW l f w wr k) (hf : ∀ i, f i < 256) (_hk : k < 32) :
  SwoW l f w (wr.setCell ⟨w.heap.size + 1 + 1, k / 8, none⟩ (.int .u64 (bits .or .u64 ((wordAt (leTo f k) (k / 8) : Nat) : Int) (IntKind.u64.wrap (((f k : Nat) : Int) * 2 ^ (k % 8 * 8)))))) (k + 1) := by
 rw [or_byte _ _ k (leTo_lt f hf k) (hf k)]
 refine ⟨h.key.far (by simp; omega) _, h.res.far (by simp) _, ?_, h.b.setCell (by simp; omega) _⟩
 have hs := h.words.set (k / 8) (.int .u64 ((wordAt (leTo f k + f k * 256 ^ k) (k / 8) : Nat) : Int))
 unfold Nm_cells at hs
 rw [Iv_set] at hs
 have e : ((List.range 4).map fun j => ((wordAt (leTo f k) j : Nat) : Int)).set (k / 8) ((wordAt (leTo f k + f k * 256 ^ k) (k / 8) : Nat) : Int) = (List.range 4).map fun j => ((wordAt (leTo f (k + 1)) j : Nat) : Int) := by
  apply List.ext_getElem (by simp)
  intro j h1 h2
  simp only [List.length_set, List.length_map, List.length_range] at h1
  simp only [List.getElem_set, List.getElem_map, List.getElem_range, leTo]
  by_cases hj : k / 8 = j
  · rw [if_pos hj, hj]
  ·
   rw [if_neg hj]
   by_cases hj2 : j < k / 8
   · rw [word_same _ _ _ _ hj2]
   ·
    rw [word_high _ k j (leTo_lt f hf k) (by omega)]
    have := leTo_lt f hf (k + 1)
    rw [show leTo f k + f k * 256 ^ k = leTo f (k + 1) from rfl, word_high _ (k + 1) j this (by omega)]
 rw [e] at hs
 exact hs
set_option maxHeartbeats 4000000 in
set_option maxRecDepth 100000 in
theorem swords_any (l : List Int) (f : Nat → Nat) (hl : Bytes32 l f) (w : World) :
  Calls Tryz.prog 70 #[Key l] w fun e w' => e = .returned (Nm (leTo f 32)) ∧ Below w.heap.size w w' := by
 unfold Key
 go_enter Tryz.func70, Tryz.ntmps70
 go_wp2
 generalize hW : World.alloc (World.alloc (World.alloc w _) _) _ = W
 have F0 : SwoW l f w W 0 := by
  subst hW
  refine ⟨((Blk.new _ _ _).alloc _).alloc _, ?_, ?_, (((Below.refl _ _).alloc (Nat.le_refl _) _).alloc (by simp) _).alloc (by simp; omega) _⟩
  ·
   rw [Nm_zero]
   exact (Blk.new' (by simp) _ _).alloc _
  ·
   show Blk _ _ _ (Nm_cells 0)
   rw [Nm_zero]
   exact Blk.new' (by simp) _ _
 clear hW
 go_loopw [5] (fun i wr => ∃ k : Nat, k ≤ 32 ∧ i = .int .i64 k ∧ SwoW l f w wr k) (fun i _ => 32 - (intOf i).toNat)
 case atStart => exact ⟨0, by omega, rfl, F0⟩
 case round =>
  obtain ⟨k, hk, rfl, F⟩ := hrel
  clear F0
  by_cases hlt : k < 32
  ·
   go_wp2
   refine wp_region_still_tail 14 (by kernel_rfl) (by kernel_rfl) ?_
   simp only [List.take_succ_cons, List.take_zero, List.drop_succ_cons, List.drop_zero]
   change wpStill _ _ (World.drew wr) (fun a' => wpList _ _ _ _ a' (World.drew wr)) _ _
   have G := F.drew
   clear F
   generalize World.drew wr = V at G ⊢
   have c4 : V.cell? ⟨w.heap.size + 1 + 1, k / 8, none⟩ = some (.int .u64 ((wordAt (leTo f k) (k / 8) : Nat) : Int)) := by
    rw [G.words.cell, Nm_at _ _ (by omega)]
   have c5 : V.cell? ⟨w.heap.size, k, none⟩ = some (.int .u8 ((f k : Nat) : Int)) := by
    rw [G.key.cell, Iv_get _ _ _ (by rw [hl.len]; omega), hl.get k hlt]
   have f4 := G.words.frozen (k / 8)
   have bk := hl.lt k
   have i1 : (0 : Int) ≤ (k : Int) := by omega
   have i2 : (k : Int) < 32 := by omega
   have i3 : (0 : Int) ≤ (k : Int) / 8 := by omega
   have i4 : (k : Int) / 8 < 4 := by omega
   have i5 : ((k : Int) / 8).toNat = k / 8 := by omega
   have i6 : IntKind.i64.wrap ((k : Int) / 8) = (k : Int) / 8 := by rw [IntKind.wrap_i64]; omega
   have i7 : IntKind.i64.wrap ((k : Int) % 8 * 8) = (k : Int) % 8 * 8 := by rw [IntKind.wrap_i64]; omega
   have i9 : ((k : Int)).tmod 8 = (k : Int) % 8 := Int.tmod_eq_emod_of_nonneg i1
   have j0 : IntKind.u64.wrap ((f k : Nat) : Int) = ((f k : Nat) : Int) := by rw [IntKind.wrap_u64]; omega
   have j1 : ((k : Int) % 8 * 8).toNat = k % 8 * 8 := by omega
   have j2 : min (k % 8 * 8) 64 = k % 8 * 8 := by omega
   have i8 : (0 : Int) ≤ (k : Int) % 8 * 8 := by omega
   repeat still_step
   refine wpStill_nil ?_
   clear i3 i4 i5 i6 i7 i8 i9 j0 j1 j2
   go_wp2
   exact ⟨⟨k + 1, by omega, by go_num, G.step hl.lt hlt⟩, by simp [intOf]; omega⟩
  ·
   obtain rfl : k = 32 := by omega
   have B5 := F.words
   have B2 := F.res
   have hb := F.b
   clear F
   go_wp2_with (first | (refine wpList_load_row rfl 113 _ rfl (w.heap.size + 1 + 1) rfl 113 _ (0, 0) _ B5 Tryz.underlying113 rfl (info_w4 _) ?_) | (refine wpList_store_row rfl 113 _ _ rfl (w.heap.size + 1) _ rfl rfl 113 _ B2 (info_w4 _) (by rw [Nm_size, Nm_size]) (Nm_one _) ?_))
   exact bodyPost_ret (results_cell_row rfl _ _ _ 113 _ (0, 0) _ rfl (B2.row _) Tryz.underlying113 rfl (info_w4 _)) rfl ⟨rfl, below_setRow hb (by omega) _⟩
end Go.Proofs.YtegbnadnodlalaaGreatDoor.Sc
