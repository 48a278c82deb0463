/- sha2: the contract of Sum256. Bytes as lists: slices that read as bytes, slices of them; Sum256 as a function on lists. mac: the contract of joined. -/
import Derived.Test.YtdmhngkedgkndaaDoorMHg0MHh
namespace Go.Proofs.YtdmhngkedgkndaaDoor
open Go.RowKit
/-- The table of square roots. -/
structure Sq (w : World) (sq : Nat → Nat) : Prop where
  cell : ∀ i, i < 8 → w.cell? ⟨2, i, none⟩ = some (.int .u64 ((sq i : Nat) : Int))
  lt : ∀ i, sq i < 18446744073709551616
  blk : 2 < w.heap.size
/-- The words ahead of all blocks. -/
def sq32 (sq : Nat → Nat) (i : Nat) : Nat := sq i / 4294967296
def sqK (sq : Nat → Nat) (k i : Nat) : Nat := if i < k then sq32 sq i else 0
/-- The sum's bytes, out of the words. -/
def sumB (wd : Nat → Nat) (i : Nat) : Nat := wd (i / 4) / 2 ^ (24 - i % 4 * 8) % 256
def sumK (wd : Nat → Nat) (k i : Nat) : Nat := if i < k then sumB wd i else 0
/-- The world with the result's cell. -/
def W1 (w : World) : World := w.alloc (.cells (Iv .u8 (List.replicate 32 0)) 28)
theorem W1_size (w : World) : (W1 w).heap.size = w.heap.size + 1 := size_alloc _ _
theorem W1_below (w : World) : Below w.heap.size w (W1 w) := (Below.refl _ _).alloc (Nat.le_refl _) _
theorem Sq.below {w w1 : World} {sq : Nat → Nat} (h : Sq w sq) (hb : Below w.heap.size w w1) : Sq w1 sq :=
  ⟨fun i hi => (hb.cell (p := ⟨2, i, none⟩) h.blk).trans (h.cell i hi), h.lt, Nat.lt_of_lt_of_le h.blk hb.size⟩
theorem Parts.below {w w1 : World} {pp : Option Addr} {gp op np : Nat} {len off m : Nat → Nat} (h : Parts w pp gp op np len off m) (hb : Below w.heap.size w w1) : Parts w1 pp gp op np len off m := by
  refine ⟨h.at_, fun i hi => ?_, fun h0 => Nat.lt_of_lt_of_le (h.blk h0) hb.size, h.zero, h.next, h.big⟩
  obtain ⟨p, c, g, o, c1, cl, gl, gp1, bs⟩ := h.cell i hi
  exact ⟨p, c, g, o, (hb.cell (p := ⟨gp, op + i, none⟩) (h.blk (by omega))).trans c1, cl, Nat.lt_of_lt_of_le gl hb.size, gp1, fun j hj => (hb.cell (p := ⟨g, o + j, none⟩) gl).trans (bs j hj)⟩
structure SuW (sq : Nat → Nat) (w wr : World) (k : Nat) : Prop where
  wd : Blk wr (w.heap.size + 1) 71 (Iv .u32 (W8 (sqK sq k)))
  k : Below (W1 w).heap.size (W1 w) wr
theorem SuW.step {sq : Nat → Nat} {w wr : World} {k : Nat} (h : SuW sq w wr k) : SuW sq w (wr.setCell ⟨w.heap.size + 1, k, none⟩ (.int .u32 ((sq32 sq k : Nat) : Int))) (k + 1) := by
  refine ⟨?_, h.k.setCell (by rw [W1_size]; exact Nat.le_refl _) _⟩
  have hs := h.wd.set k (.int .u32 ((sq32 sq k : Nat) : Int))
  rw [Iv_set] at hs
  have e := W8_set (sqK sq k) (sqK sq (k + 1)) k rfl (fun i hi => by unfold sqK; by_cases h : i < k <;> simp [h] <;> omega)
  rw [show sqK sq (k + 1) k = sq32 sq k from if_pos (by omega)] at e
  rw [e] at hs
  exact hs
theorem BL_length (n : Nat) (f : Nat → Nat) : (BL n f).length = n := by simp [BL]
theorem info_B32 (f : Nat → Nat) : (Tryd.prog.info? 28).map (·.size) = some (Iv .u8 (BL 32 f)).size := by
  rw [Iv_size, BL_length]
  kernel_rfl
structure SuV (HK : Nat → Nat) (w1 wr : World) (k : Nat) : Prop where
  o : Blk wr w1.heap.size 28 (Iv .u8 (BL 32 (sumK HK k)))
  k : Below w1.heap.size w1 wr
theorem SuV.step {HK : Nat → Nat} {w1 wr : World} {k : Nat} (h : SuV HK w1 wr k) : SuV HK w1 (wr.setCell ⟨w1.heap.size, k, none⟩ (.int .u8 ((sumB HK k : Nat) : Int))) (k + 1) := by
  refine ⟨?_, h.k.setCell (by simp) _⟩
  have hs := h.o.set k (.int .u8 ((sumB HK k : Nat) : Int))
  rw [Iv_set] at hs
  have e := BL_set 32 (sumK HK k) (sumK HK (k + 1)) k (fun i hi => by unfold sumK; by_cases h : i < k <;> simp [h] <;> omega)
  rw [show sumK HK (k + 1) k = sumB HK k from if_pos (by omega)] at e
  rw [e] at hs
  exact hs
set_option maxHeartbeats 2000000 in
set_option maxRecDepth 100000 in
theorem sum256_any (cu sq m len off : Nat → Nat) (w : World) (pp : Option Addr) (gp op np cp : Nat) (T : Tab w cu) (S : Sq w sq)
    (ml : ∀ i, m i < 256) (hP : Parts w pp gp op np len off m) (hnp : np < 4611686018427387904) (hm : ∀ i, i < roomOf (off np) → m (off np + i) = endK (off np) 8 i) :
    Calls Tryd.prog 30 #[.slice pp np cp] w fun e w' => e = .returned (.agg (Iv .u8 (BL 32 (sumB (hashK cu (sq32 sq) m ((off np + roomOf (off np)) / 64)))))) ∧ Below w.heap.size w w' := by
  have S' := S.below (W1_below w)
  have T' := T.below (W1_below w)
  have P' := hP.below (W1_below w)
  have ws := W1_size w
  clear S T hP
  go_enter Tryd.func30, Tryd.ntmps30
  go_wp2_with fail
  generalize hW : World.alloc (World.alloc w _) _ = W
  have F0 : SuW sq w W 0 := by
    subst hW
    exact ⟨Blk.new' (by simp) _ _, (Below.refl _ (W1 w)).alloc (Nat.le_refl _) _⟩
  clear hW
  go_loopw [4, 7] (fun _ i wr => ∃ k : Nat, k ≤ 8 ∧ i = .int .i64 k ∧ SuW sq w wr k) (fun _ i _ => 8 - (intOf i).toNat)
  case atStart => exact ⟨0, by omega, rfl, F0⟩
  case round =>
    obtain ⟨k, hk, rfl, F⟩ := hrel
    clear F0
    by_cases hlt : k < 8
    · have c1 : wr.cell? ⟨2, k, none⟩ = some (.int .u64 ((sq k : Nat) : Int)) := (F.k.cell (p := ⟨2, k, none⟩) S'.blk).trans (S'.cell k hlt)
      have c2 : wr.cell? ⟨w.heap.size + 1, k, none⟩ = some (.int .u32 ((0 : Nat) : Int)) := by
        rw [F.wd.cell, W8_get _ _ hlt, show sqK sq k k = 0 from if_neg (by omega)]
      have f2 := F.wd.frozen k
      have l1 := S'.lt k
      have S1 := F.step
      rw [show ((sq32 sq k : Nat) : Int) = ((sq k : Nat) : Int) / 4294967296 from by unfold sq32; omega] at S1
      have HS := Lib.hid S1
      clear F S1
      go_wp2
      exact ⟨⟨k + 1, by omega, by go_num, HS.out⟩, by simp [intOf]; omega⟩
    · obtain rfl : k = 8 := by omega
      rw [show ((8 : Nat) : Int) = 8 from rfl]
      have F1 := F.wd
      rw [show W8 (sqK sq 8) = W8 (sq32 sq) from List.map_congr_left fun j hj => by rw [show sqK sq 8 j = sq32 sq j from if_pos (List.mem_range.1 hj)]] at F1
      have BC := Lib.hid (blocks_any cu (sq32 sq) m len off (w.heap.size + 1) (W1 w) wr pp gp op np cp T' F.k (by omega) F1 ml (fun i _ => by have := S'.lt i; unfold sq32; omega) P' hnp hm)
      clear F F1 hk hlt
      go_wp2_with fail
      refine BC.out.mono ?_
      rintro _ w1 ⟨⟨v, rfl⟩, hw1, k1⟩
      clear BC
      have HKl : ∀ i, i < 8 → hashK cu (sq32 sq) m ((off np + roomOf (off np)) / 64) i < 4294967296 := hashK_lt cu (sq32 sq) m (fun i _ => by have := S'.lt i; unfold sq32; omega) _
      obtain ⟨HK, hHK⟩ : ∃ HK, HK = hashK cu (sq32 sq) m ((off np + roomOf (off np)) / 64) := ⟨_, rfl⟩
      rw [← hHK] at hw1 HKl
      have HH := Lib.hid hHK
      clear hHK
      go_wp2_with fail
      have R1 : Blk w1 w.heap.size 28 (Iv .u8 (List.replicate 32 0)) := (Blk.new w 28 (Iv .u8 (List.replicate 32 0))).below k1 (by omega)
      have wl1 := R1.lt
      have wl2 := hw1.lt
      generalize hV : World.alloc w1 _ = V
      have G0 : SuV HK w1 V 0 := by
        subst hV
        refine ⟨?_, (Below.refl _ _).alloc (Nat.le_refl _) _⟩
        rw [show BL 32 (sumK HK 0) = List.replicate 32 0 from by unfold sumK; simp only [Nat.not_lt_zero, if_neg, not_false_eq_true]; rfl]
        exact Blk.new _ _ _
      clear hV
      go_loopw [6, 21] (fun _ i wr => ∃ k : Nat, k ≤ 32 ∧ i = .int .i64 k ∧ SuV HK w1 wr k) (fun _ i _ => 32 - (intOf i).toNat)
      case atStart => exact ⟨0, by omega, rfl, G0⟩
      case round =>
        obtain ⟨k, hk, rfl, F⟩ := hrel
        clear G0
        by_cases hlt : k < 32
        · have c1 : wr.cell? ⟨w.heap.size + 1, k / 4, none⟩ = some (.int .u32 ((HK (k / 4) : Nat) : Int)) := by
            rw [(hw1.below F.k wl2).cell, W8_get _ _ (by omega)]
          have c2 : wr.cell? ⟨w1.heap.size, k, none⟩ = some (.int .u8 ((sumK HK k k : Nat) : Int)) := by
            rw [F.o.cell, BL_get _ _ _ hlt]
          have f2 := F.o.frozen k
          have l1 := HKl (k / 4) (by omega)
          have i1 : ((k : Int) / 4).toNat = k / 4 := by omega
          have i2 : (0 : Int) ≤ (k : Int) / 4 := by omega
          have i3 : (k : Int) / 4 < 8 := by omega
          have i4 : IntKind.i64.wrap ((k : Int) / 4) = (k : Int) / 4 := by rw [IntKind.wrap_i64]; omega
          have i5 : IntKind.i64.wrap ((k : Int) % 4 * 8) = (k : Int) % 4 * 8 := by rw [IntKind.wrap_i64]; omega
          have i6 : IntKind.i64.wrap (24 - (k : Int) % 4 * 8) = 24 - (k : Int) % 4 * 8 := by rw [IntKind.wrap_i64]; omega
          have i7 : (0 : Int) ≤ 24 - (k : Int) % 4 * 8 := by omega
          have i8 : (24 - (k : Int) % 4 * 8).toNat = 24 - k % 4 * 8 := by omega
          have S1 := F.step
          rw [show ((sumB HK k : Nat) : Int) = ((HK (k / 4) : Nat) : Int) / 2 ^ (24 - k % 4 * 8) % 256 from by unfold sumB; push_cast; rfl] at S1
          have HS := Lib.hid S1
          clear F S1
          go_wp2
          exact ⟨⟨k + 1, by omega, by go_num, HS.out⟩, by simp [intOf]; omega⟩
        · obtain rfl : k = 32 := by omega
          rw [show ((32 : Nat) : Int) = 32 from rfl]
          have HO := F.o
          rw [show BL 32 (sumK HK 32) = BL 32 (sumB HK) from List.map_congr_left fun j hj => by rw [show sumK HK 32 j = sumB HK j from if_pos (List.mem_range.1 hj)]] at HO
          have HR := R1.below F.k wl1
          have HB : Below w.heap.size w wr := (W1_below w).trans ((k1.trans (F.k.mono (by omega))).mono (by omega))
          clear F
          go_wp2_with (first | (refine wpList_load_row rfl 28 _ rfl (w1.heap.size) rfl 28 _ (0, 0) _ HO Tryd.underlying28 rfl (info_B32 _) ?_) | (refine wpList_store_row rfl 28 _ _ rfl (w.heap.size) (Iv .u8 (BL 32 (sumB HK))) rfl rfl 28 _ HR (info_B32 _) (by rw [Iv_size, Iv_size, BL_length]; rfl) (Iv_one _ _) ?_))
          exact bodyPost_ret (results_cell_row rfl _ _ _ 28 _ (0, 0) _ rfl (HR.row _) Tryd.underlying28 rfl (info_B32 _)) rfl ⟨by rw [HH.out], below_setRow HB (by omega) _⟩
end Go.Proofs.YtdmhngkedgkndaaDoor
namespace Go.Proofs.YtdmhngkedgkndaaDoor
open Go.RowKit
/-- The bytes behind n. -/
def endL (n : Nat) : List Nat := (List.range (roomOf n)).map (endK n 8)
def padded (l : List Nat) : List Nat := l ++ endL l.length
/-- The sum of bytes, by lists; cu, sq: the tables. -/
def sha (cu sq : Nat → Nat) (l : List Nat) : List Nat := (List.range 32).map (sumB (hashK cu (sq32 sq) (fun i => (padded l).getD i 0) ((l.length + roomOf l.length) / 64)))
theorem sha_length (cu sq : Nat → Nat) (l : List Nat) : (sha cu sq l).length = 32 := by simp [sha]
theorem sha_bytes (cu sq : Nat → Nat) (l : List Nat) : Bytes (sha cu sq l) := fun x h => by
  unfold sha at h
  obtain ⟨i, _, rfl⟩ := List.mem_map.1 h
  exact Nat.mod_lt _ (by decide)
theorem sha_NI (cu sq : Nat → Nat) (l : List Nat) : BL 32 (sumB (hashK cu (sq32 sq) (fun i => (padded l).getD i 0) ((l.length + roomOf l.length) / 64))) = NI (sha cu sq l) := by
  unfold sha NI BL
  rw [List.map_map]
  rfl
theorem endL_bytes (n : Nat) : Bytes (endL n) := fun x h => by
  obtain ⟨i, _, rfl⟩ := List.mem_map.1 h
  exact endK_lt _ _ _
theorem padded_bytes {l : List Nat} (h : Bytes l) : Bytes (padded l) := h.append (endL_bytes _)
set_option maxHeartbeats 1000000 in
theorem sum256_l (cu sq : Nat → Nat) (w : World) (v : Value) (ls : List (List Nat)) (T : Tab w cu) (S : Sq w sq) (hp : SP w v ls) (hb : ∀ l ∈ ls, Bytes l) (hn : ls.length < 4611686018427387904) (hl : ls.flatten.length < 2305843009213693952) :
    Calls Tryd.prog 30 #[v] w fun e w' => e = .returned (.agg (Iv .u8 (NI (sha cu sq ls.flatten)))) ∧ Below w.heap.size w w' := by
  obtain ⟨p, c, rfl, hc, hls⟩ := hp
  have off_all : (ls.take ls.length).flatten.length = ls.flatten.length := by rw [List.take_length]
  have hbf := Bytes.flatten hb
  have key : ∀ (g o : Nat), (0 < ls.length → p = some ⟨g, o, none⟩) → (0 < ls.length → g < w.heap.size) → (∀ (i : Nat) (h : i < ls.length), ∃ u, w.cell? ⟨g, o + i, none⟩ = some u ∧ SB w u ls[i]) →
      Parts w p g o ls.length (fun i => (ls.getD i []).length) (fun i => (ls.take i).flatten.length) (fun i => (padded ls.flatten).getD i 0) := by
    intro g o h1 h2 h3
    refine ⟨h1, fun i hi => ?_, h2, by simp, fun i => flat_take_succ ls i, by rw [off_all]; exact hl⟩
    obtain ⟨u, hu, q, cq, rfl, hq, hr⟩ := h3 i hi
    have eg : ls.getD i [] = ls[i] := by simp [hi]
    rw [eg]
    have fin : ∀ (g2 o2 : Nat), g2 < w.heap.size → (0 < ls[i].length → q = some ⟨g2, o2, none⟩) → (∀ (j : Nat) (hj : j < ls[i].length), w.cell? ⟨g2, o2 + j, none⟩ = some (.int .u8 ((ls[i][j] : Nat) : Int))) →
        ∃ q' : Option Addr, ∃ c' g' o' : Nat, w.cell? ⟨g, o + i, none⟩ = some (.slice q' ls[i].length c') ∧ ls[i].length ≤ c' ∧ g' < w.heap.size ∧ (0 < ls[i].length → q' = some ⟨g', o', none⟩) ∧ ∀ j, j < ls[i].length → w.cell? ⟨g', o' + j, none⟩ = some (.int .u8 (((padded ls.flatten).getD ((ls.take i).flatten.length + j) 0 : Nat) : Int)) := by
      intro g2 o2 k1 k2 k3
      refine ⟨q, cq, g2, o2, hu, hq, k1, k2, fun j hj => ?_⟩
      rw [k3 j hj]
      have hg := flat_get ls i j hi hj
      have hlt : (ls.take i).flatten.length + j < ls.flatten.length := by
        rcases Nat.lt_or_ge ((ls.take i).flatten.length + j) ls.flatten.length with h | h
        · exact h
        · rw [List.getElem?_eq_none h] at hg
          cases hg
      rw [List.getD_eq_getElem?_getD]
      unfold padded
      rw [List.getElem?_append_left hlt, hg]
      rfl
    rcases hr with h0 | ⟨g2, o2, rfl, hba⟩
    · rw [h0]
      refine ⟨q, cq, g, 0, ?_, by rw [h0] at hq; exact hq, h2 (by omega), fun h => by simp at h, fun j hj => by simp at hj⟩
      rw [hu, h0]
    · exact fin g2 o2 hba.blk (fun _ => rfl) hba.cell
  have hm : ∀ i, i < roomOf ((ls.take ls.length).flatten.length) → (padded ls.flatten).getD ((ls.take ls.length).flatten.length + i) 0 = endK ((ls.take ls.length).flatten.length) 8 i := by
    intro i hi
    rw [off_all] at hi ⊢
    rw [List.getD_eq_getElem?_getD]
    unfold padded
    rw [List.getElem?_append_right (by omega), Nat.add_sub_cancel_left]
    unfold endL
    rw [List.getElem?_map, List.getElem?_range hi]
    rfl
  have fin : ∀ g o, Parts w p g o ls.length (fun i => (ls.getD i []).length) (fun i => (ls.take i).flatten.length) (fun i => (padded ls.flatten).getD i 0) →
      Calls Tryd.prog 30 #[.slice p ls.length c] w fun e w' => e = .returned (.agg (Iv .u8 (NI (sha cu sq ls.flatten)))) ∧ Below w.heap.size w w' := by
    intro g o P
    have h := sum256_any cu sq _ _ _ w p g o ls.length c T S (fun i => (padded_bytes hbf).getD i) P hn hm
    rw [off_all, sha_NI] at h
    exact h
  rcases hls with h0 | ⟨g, o, rfl, hg, hcell⟩
  · exact fin 0 0 (key 0 0 (fun h => by rw [h0] at h; simp at h) (fun h => by rw [h0] at h; simp at h) (fun i hi => by rw [h0] at hi; simp at hi))
  · exact fin g o (key g o (fun _ => rfl) (fun _ => hg) hcell)
/-- Each byte joined with another one by exclusive-or. -/
def xorL (c : Nat) (k : List Nat) : List Nat := k.map (· ^^^ c)
theorem xorL_length (c : Nat) (k : List Nat) : (xorL c k).length = k.length := by simp [xorL]
theorem xor256 (a b : Nat) (ha : a < 256) (hb : b < 256) : a ^^^ b < 256 := Nat.xor_lt_two_pow (n := 8) ha hb
theorem xorL_bytes {c : Nat} {k : List Nat} (hc : c < 256) (hk : Bytes k) : Bytes (xorL c k) := fun x h => by
  obtain ⟨y, hy, rfl⟩ := List.mem_map.1 h
  exact xor256 _ _ (hk y hy) hc
/-- A key of 64 bytes. -/
def keyPad (cu sq : Nat → Nat) (key : List Nat) : List Nat := let k := if 64 < key.length then sha cu sq key else key; k ++ List.replicate (64 - k.length) 0
theorem keyPad_length (cu sq : Nat → Nat) (key : List Nat) : (keyPad cu sq key).length = 64 := by
  unfold keyPad
  by_cases h : 64 < key.length
  · simp [h, sha_length]
  · simp [h]; omega
theorem keyPad_bytes (cu sq : Nat → Nat) {key : List Nat} (h : Bytes key) : Bytes (keyPad cu sq key) := by
  unfold keyPad
  by_cases hl : 64 < key.length
  · simp only [hl, if_true]
    exact (sha_bytes _ _ _).append (Bytes.replicate _ (by decide))
  · simp only [hl, if_false]
    exact h.append (Bytes.replicate _ (by decide))
/-- The sum with a key. -/
def hmac (cu sq : Nat → Nat) (key msg : List Nat) : List Nat := sha cu sq (xorL 92 (keyPad cu sq key) ++ sha cu sq (xorL 54 (keyPad cu sq key) ++ msg))
theorem hmac_length (cu sq : Nat → Nat) (key msg : List Nat) : (hmac cu sq key msg).length = 32 := sha_length _ _ _
theorem hmac_bytes (cu sq : Nat → Nat) (key msg : List Nat) : Bytes (hmac cu sq key msg) := sha_bytes _ _ _
end Go.Proofs.YtdmhngkedgkndaaDoor
namespace Go.Proofs.YtdmhngkedgkndaaDoor
open Go.RowKit
theorem xor8 (a b : Nat) (ha : a < 256) (hb : b < 256) : bits .xor .u8 (a : Int) (b : Int) = ((a ^^^ b : Nat) : Int) := u8_xor_nat a b ha hb
/-- What the 64 bytes are behind k rounds. -/
def xorK (c : Nat) (l : List Nat) (k : Nat) : List Nat := xorL c (l.take k) ++ l.drop k
theorem xorK_length (c : Nat) (l : List Nat) (k : Nat) : (xorK c l k).length = l.length := by simp [xorK, xorL]; omega
theorem xorK_zero (c : Nat) (l : List Nat) : xorK c l 0 = l := by simp [xorK, xorL]
theorem xorK_full (c : Nat) (l : List Nat) (k : Nat) (h : l.length ≤ k) : xorK c l k = xorL c l := by simp [xorK, xorL, List.take_of_length_le h, List.drop_of_length_le h]
theorem xorK_set (c : Nat) (l : List Nat) (k : Nat) (h : k < l.length) : (xorK c l k).set k (l[k] ^^^ c) = xorK c l (k + 1) := by
  unfold xorK xorL
  rw [List.set_append_right _ _ (by simp; omega)]
  rw [← List.take_append_getElem h, List.map_append, List.append_assoc]
  congr 1
  simp only [List.length_map, List.length_take]
  rw [show k - min k l.length = 0 by omega, List.drop_eq_getElem_cons h, List.set_cons_zero]
  rfl
theorem xorK_get (c : Nat) (l : List Nat) (k : Nat) (h : k < l.length) : (Iv .u8 (NI (xorK c l k)))[k]? = some (.int .u8 ((l[k] : Nat) : Int)) := by
  rw [NI_get _ _ (by rw [xorK_length]; exact h)]
  have e : (xorK c l k)[k]? = some l[k] := by
    unfold xorK
    rw [List.getElem?_append_right (by simp [xorL]; omega), List.getElem?_drop]
    simp [xorL, show k + (k - min k l.length) = k by omega]
  rw [List.getElem?_eq_getElem (by rw [xorK_length]; exact h)] at e
  rw [Option.some.inj e]
theorem info_64 (l : List Int) (h : l.length = 64) : (Tryd.prog.info? 74).map (·.size) = some (Iv .u8 l).size := by
  rw [Iv_size, h]
  kernel_rfl
theorem NI_set (l : List Nat) (k v : Nat) : (NI l).set k ((v : Nat) : Int) = NI (l.set k v) := by simp [NI, List.map_set]
structure JoW (c : Nat) (l : List Nat) (w wr : World) (k : Nat) : Prop where
  o : Blk wr w.heap.size 74 (Iv .u8 (NI (xorK c l k)))
  k : Below w.heap.size w wr
theorem JoW.step {c : Nat} {l : List Nat} {w wr : World} {k : Nat} (h : JoW c l w wr k) (hk : k < l.length) : JoW c l w (wr.setCell ⟨w.heap.size, k, none⟩ (.int .u8 ((l[k] ^^^ c : Nat) : Int))) (k + 1) := by
  refine ⟨?_, h.k.setCell (by simp) _⟩
  have hs := h.o.set k (.int .u8 ((l[k] ^^^ c : Nat) : Int))
  rw [Iv_set, NI_set, xorK_set _ _ _ hk] at hs
  exact hs
set_option maxHeartbeats 2000000 in
set_option maxRecDepth 100000 in
theorem mjoined_any (c : Nat) (l : List Nat) (w : World) (hl : l.length = 64) (hb : Bytes l) (hc : c < 256) :
    Calls Tryd.prog 40 #[.agg (Iv .u8 (NI l)), .int .u8 (c : Int)] w fun e w' => e = .returned (.slice (some ⟨w.heap.size, 0, none⟩) 64 64) ∧ BA w' w.heap.size 0 (xorL c l) ∧ Below w.heap.size w w' := by
  go_enter Tryd.func40, Tryd.ntmps40
  go_wp2_with fail
  generalize hW : World.alloc w _ = W
  have F0 : JoW c l w W 0 := by
    subst hW
    refine ⟨?_, (Below.refl _ _).alloc (Nat.le_refl _) _⟩
    rw [xorK_zero]
    exact Blk.new _ _ _
  clear hW
  go_loopw [6] (fun i wr => ∃ k : Nat, k ≤ 64 ∧ i = .int .i64 k ∧ JoW c l w wr k) (fun i _ => 64 - (intOf i).toNat)
  case atStart => exact ⟨0, by omega, rfl, F0⟩
  case round =>
    obtain ⟨k, hk, rfl, F⟩ := hrel
    clear F0
    by_cases hlt : k < 64
    · have c1 : wr.cell? ⟨w.heap.size, k, none⟩ = some (.int .u8 ((l[k] : Nat) : Int)) := by
        rw [F.o.cell, xorK_get _ _ _ (by rw [hl]; exact hlt)]
      have f1 := F.o.frozen k
      have x1 := xor8 l[k] c (hb _ (List.getElem_mem _)) hc
      have i1 : (0 : Int) ≤ (k : Int) := by omega
      have i2 : (k : Int) < 64 := by omega
      have S1 := F.step (by rw [hl]; exact hlt)
      have HX := Lib.hid x1
      have HS := Lib.hid S1
      clear F S1 x1
      go_wp2
      rw [HX.out]
      exact ⟨⟨k + 1, by omega, by go_num, HS.out⟩, by simp [intOf]; omega⟩
    · obtain rfl : k = 64 := by omega
      rw [show ((64 : Nat) : Int) = 64 from rfl]
      have FO := F.o
      have FK := F.k
      rw [xorK_full _ _ _ (by omega)] at FO
      clear F
      go_wp2
      go_ret
      exact ⟨rfl, BA.of_blk FO, FK⟩
end Go.Proofs.YtdmhngkedgkndaaDoor
