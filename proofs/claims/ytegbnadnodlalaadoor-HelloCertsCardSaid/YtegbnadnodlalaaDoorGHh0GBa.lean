/- sha2: all parts put into blocks, and the ending behind them. sha2: the contract of Sum512. Bytes as lists: slices that read as bytes, slices of them; Sum512 as a function on lists. -/
import Derived.Test.YtegbnadnodlalaaDoorGHe0GHg
import Derived.Deep.MidRow
namespace Go.Proofs.YtegbnadnodlalaaDoor.H5
open Go.RowKit
/-- A slice of parts: their lengths, where each begins, the bytes m. -/
structure Parts (w : World) (pp : Option Addr) (gp op np : Nat) (len off m : Nat → Nat) : Prop where
  at_ : 0 < np → pp = some ⟨gp, op, none⟩
  cell : ∀ i, i < np → ∃ p : Option Addr, ∃ c g o : Nat, w.cell? ⟨gp, op + i, none⟩ = some (.slice p (len i) c) ∧ len i ≤ c ∧ g < w.heap.size ∧ (0 < len i → p = some ⟨g, o, none⟩) ∧ ∀ j, j < len i → w.cell? ⟨g, o + j, none⟩ = some (.int .u8 ((m (off i + j) : Nat) : Int))
  blk : 0 < np → gp < w.heap.size
  zero : off 0 = 0
  next : ∀ i, off (i + 1) = off i + len i
  big : off np < 2305843009213693952
theorem Parts.mono {w : World} {pp : Option Addr} {gp op np : Nat} {len off m : Nat → Nat} (h : Parts w pp gp op np len off m) {i j : Nat} (hij : i ≤ j) : off i ≤ off j := by
  induction j with
  | zero => obtain rfl : i = 0 := by omega
            exact Nat.le_refl _
  | succ j ih =>
    rcases Nat.lt_or_ge i (j + 1) with h1 | h1
    · have := ih (by omega)
      rw [h.next]
      omega
    · obtain rfl : i = j + 1 := by omega
      exact Nat.le_refl _
theorem store_new {P : Program} (W : World) (cs : Array Value) (t : TypeId) (i : Nat) (v : Value) (h1 : v.oneCell' = true) (hi : i < cs.size) :
    (store ⟨W.heap.size, i, none⟩ v).run P (W.alloc (.cells cs t)) = .ok () (W.alloc (.cells (cs.setIfInBounds i v) t)) := by
  have hb := Blk.new W t cs
  rw [run_store _ _ _ _ _ h1, hb.cell, Array.getElem?_eq_getElem hi]
  simp only [hb.frozen, World.setCell_alloc_new]
  rfl
set_option maxHeartbeats 2000000 in
set_option maxRecDepth 100000 in
theorem blocks_any (cu h0 m len off : Nat → Nat) (gw : Nat) (w0 w : World) (pp : Option Addr) (gp op np cp : Nat) (T : Tab w0 cu) (far : Below w0.heap.size w0 w) (hgw : w0.heap.size ≤ gw) (hw : Blk w gw 103 (Iv .u64 (W8 h0)))
    (ml : ∀ i, m i < 256) (hl : ∀ i, i < 8 → h0 i < 18446744073709551616) (hP : Parts w0 pp gp op np len off m) (hnp : np < 4611686018427387904) (hm : ∀ i, i < roomOf (off np) → m (off np + i) = endK (off np) 8 i) :
    Calls Tryd.prog 74 #[.int .i64 128, .slice pp np cp, EachV gw] w fun e w' => (∃ v, e = .returned v) ∧ Blk w' gw 103 (Iv .u64 (W8 (hashK cu h0 m ((off np + roomOf (off np)) / 128)))) ∧ Below w0.heap.size w0 w' := by
  have hmk := make8 128 (by omega)
  rw [show ((128 : Nat) : Int) = 128 from rfl] at hmk
  unfold EachV
  have hst : (store ⟨w.heap.size + 1, 2, none⟩ (.func (.func 75) #[] #[.pointer (some ⟨gw, 0, none⟩)])).run Tryd.prog ((w.alloc (.cells (Iv .u8 (BL 128 fun _ => 0)) 5)).alloc (.cells #[.slice (some ⟨w.heap.size, 0, none⟩) 128 128, .int .i64 0, .nilFunc] 132)) = .ok () ((w.alloc (.cells (Iv .u8 (BL 128 fun _ => 0)) 5)).alloc (.cells #[.slice (some ⟨w.heap.size, 0, none⟩) 128 128, .int .i64 0, .func (.func 75) #[] #[.pointer (some ⟨gw, 0, none⟩)]] 132)) := by
    have h := store_new (P := Tryd.prog) (w.alloc (.cells (Iv .u8 (BL 128 fun _ => 0)) 5)) #[.slice (some ⟨w.heap.size, 0, none⟩) 128 128, .int .i64 0, .nilFunc] 132 2 (.func (.func 75) #[] #[.pointer (some ⟨gw, 0, none⟩)]) rfl (by simp)
    rw [size_alloc] at h
    exact h
  go_enter Tryd.func74, Tryd.ntmps74
  go_wp2_with fail
  have wl := hw.lt
  have wB := far.size
  have C : FillC cu h0 m w0.heap.size (w.heap.size + 1) w.heap.size gw w0 := ⟨T, rfl, by omega, wB, hgw, by omega, by omega, by omega, ml, hl⟩
  generalize hV : World.alloc _ (.cells #[.slice (some ⟨w.heap.size, 0, none⟩) 128 128, .int .i64 0, .func (.func 75) #[] #[.pointer (some ⟨gw, 0, none⟩)]] 132) = V
  have F0 : Fill cu h0 m w0.heap.size (w.heap.size + 1) w.heap.size gw w0 V 0 0 := by
    subst hV
    refine ⟨Blk.new' (by simp) _ _, ⟨fun _ => 0, (Blk.new _ _ _).alloc _, fun i hi => absurd hi (by omega)⟩, (hw.alloc _).alloc _, (far.alloc wB _).alloc (by simp; omega) _⟩
  clear hV hst hmk hw far
  generalize w.heap.size + 1 = gf at C F0 ⊢
  generalize w.heap.size = gk at C F0 ⊢
  go_loopw [7, 9, 16] (fun u _ v wr => ∃ i q h : Nat, i ≤ np ∧ v = .int .i64 i ∧ u = .int .i64 (off i : Nat) ∧ h < 128 ∧ off i = 128 * q + h ∧ Fill cu h0 m w0.heap.size gf gk gw w0 wr q h) (fun _ _ v _ => np - (intOf v).toNat)
  case atStart => exact ⟨0, 0, 0, by omega, rfl, by rw [hP.zero]; rfl, by omega, by rw [hP.zero], F0⟩
  case round =>
    obtain ⟨i, q, h, hi, rfl, rfl, hh, hq, F⟩ := hrel
    clear F0
    have HQ := Lib.hid hq
    have big := hP.big
    by_cases hlt : i < np
    · obtain rfl := hP.at_ (by omega)
      obtain ⟨p, c, g, o, c1, cl, gl, gp1, bs⟩ := hP.cell i hlt
      have mo := hP.mono (show i + 1 ≤ np by omega)
      have nx := hP.next i
      have c2 : wr.cell? ⟨gp, op + i, none⟩ = some (.slice p (len i) c) := (F.far.cell (p := ⟨gp, op + i, none⟩) (hP.blk (by omega))).trans c1
      have i1 : IntKind.i64.wrap ((off i : Nat) + (len i : Nat) : Int) = ((off (i + 1) : Nat) : Int) := by rw [nx, IntKind.wrap_i64]; omega
      have A := Lib.hid (add_any cu h0 m w0.heap.size gf gk gw w0 wr q h C F hh p g o (len i) c (by omega) cl gp1 (fun j hj => ((F.far.cell (p := ⟨g, o + j, none⟩) gl).trans (bs j hj)).trans (by rw [hq]))
        (Nat.lt_of_lt_of_le gl F.far.size) (by have := C.bf; omega) (by have := C.bk; omega) (by have := C.bw; omega))
      have NX := Lib.hid nx
      clear hq nx bs cl gl gp1 F c1
      go_wp2_with fail
      refine A.out.mono ?_
      rintro _ w1 ⟨⟨v, rfl⟩, q', h', hh', hq', F'⟩
      clear A
      have HQ' := Lib.hid hq'
      clear hq'
      go_wp2_with fail
      exact ⟨⟨i + 1, q', h', by omega, by go_num, rfl, hh', by rw [NX.out, HQ.out, HQ'.out], F'⟩, by simp [intOf]; omega⟩
    · obtain rfl : i = np := by omega
      have r1 := roomOf_lo (off i)
      have r2 := roomOf_hi (off i)
      have r3 := roomOf_mod (off i)
      have EN := Lib.hid (ending_any (off i) wr (by omega))
      clear hq
      go_wp2_with fail
      refine EN.out.mono ?_
      rintro _ w1 ⟨rfl, e1, b1⟩
      have F1 : Fill cu h0 m w0.heap.size gf gk gw w0 w1 q h := by
        obtain ⟨g, k1, k2⟩ := F.k
        exact ⟨F.f.below' b1, ⟨g, k1.below' b1, k2⟩, F.wd.below' b1, F.far.trans (b1.mono F.far.size)⟩
      have l1 := F.f.lt
      have l2 := F.wd.lt
      obtain ⟨g, k1, k2⟩ := F.k
      have l3 := k1.lt
      have A := Lib.hid (add_any cu h0 m w0.heap.size gf gk gw w0 w1 q h C F1 hh (some ⟨wr.heap.size, 0, none⟩) wr.heap.size 0 (roomOf (off i)) (roomOf (off i)) (by omega) (Nat.le_refl _) (fun _ => rfl) (fun j hj => by
          rw [Nat.zero_add, e1.cell, BL_get _ _ _ hj, ← hm j hj, HQ.out])
        e1.lt (by omega) (by omega) (by omega))
      clear EN F1 e1 b1 k1 k2 F
      go_wp2_with fail
      refine A.out.mono ?_
      rintro _ w2 ⟨⟨v, rfl⟩, q', h', hh', hq', F'⟩
      clear A
      have HQ' := Lib.hid hq'
      clear hq'
      go_wp2_with fail
      refine bodyPost_end (results_none rfl _ _ _) rfl ?_
      have e1 := HQ.out
      have e2 := HQ'.out
      have e3 : q' = (off i + roomOf (off i)) / 128 := by omega
      exact ⟨⟨_, rfl⟩, e3 ▸ F'.wd, F'.far⟩
end Go.Proofs.YtegbnadnodlalaaDoor.H5
namespace Go.Proofs.YtegbnadnodlalaaDoor.H5
open Go.RowKit
/-- The table of square roots. -/
structure Sq (w : World) (sq : Nat → Nat) : Prop where
  cell : ∀ i, i < 8 → w.cell? ⟨0, i, none⟩ = some (.int .u64 ((sq i : Nat) : Int))
  lt : ∀ i, sq i < 18446744073709551616
  blk : 0 < w.heap.size
/-- The sum's bytes, out of the words. -/
def sumB (wd : Nat → Nat) (i : Nat) : Nat := wd (i / 8) / 2 ^ (56 - i % 8 * 8) % 256
def sumK (wd : Nat → Nat) (k i : Nat) : Nat := if i < k then sumB wd i else 0
/-- The world with the result's cell. -/
def W1 (w : World) : World := w.alloc (.cells (Iv .u8 (List.replicate 64 0)) 35)
theorem W1_size (w : World) : (W1 w).heap.size = w.heap.size + 1 := size_alloc _ _
theorem W1_below (w : World) : Below w.heap.size w (W1 w) := (Below.refl _ _).alloc (Nat.le_refl _) _
theorem Sq.below {w w1 : World} {sq : Nat → Nat} (h : Sq w sq) (hb : Below w.heap.size w w1) : Sq w1 sq :=
  ⟨fun i hi => (hb.cell (p := ⟨0, i, none⟩) h.blk).trans (h.cell i hi), h.lt, Nat.lt_of_lt_of_le h.blk hb.size⟩
theorem Parts.below {w w1 : World} {pp : Option Addr} {gp op np : Nat} {len off m : Nat → Nat} (h : Parts w pp gp op np len off m) (hb : Below w.heap.size w w1) : Parts w1 pp gp op np len off m := by
  refine ⟨h.at_, fun i hi => ?_, fun h0 => Nat.lt_of_lt_of_le (h.blk h0) hb.size, h.zero, h.next, h.big⟩
  obtain ⟨p, c, g, o, c1, cl, gl, gp1, bs⟩ := h.cell i hi
  exact ⟨p, c, g, o, (hb.cell (p := ⟨gp, op + i, none⟩) (h.blk (by omega))).trans c1, cl, Nat.lt_of_lt_of_le gl hb.size, gp1, fun j hj => (hb.cell (p := ⟨g, o + j, none⟩) gl).trans (bs j hj)⟩
theorem BL_length (n : Nat) (f : Nat → Nat) : (BL n f).length = n := by simp [BL]
theorem info_B64 (f : Nat → Nat) : (Tryd.prog.info? 35).map (·.size) = some (Iv .u8 (BL 64 f)).size := by
  rw [Iv_size, BL_length]
  kernel_rfl
structure SuV (HK : Nat → Nat) (w1 wr : World) (k : Nat) : Prop where
  o : Blk wr w1.heap.size 35 (Iv .u8 (BL 64 (sumK HK k)))
  k : Below w1.heap.size w1 wr
theorem SuV.step {HK : Nat → Nat} {w1 wr : World} {k : Nat} (h : SuV HK w1 wr k) : SuV HK w1 (wr.setCell ⟨w1.heap.size, k, none⟩ (.int .u8 ((sumB HK k : Nat) : Int))) (k + 1) := by
  refine ⟨?_, h.k.setCell (by simp) _⟩
  have hs := h.o.set k (.int .u8 ((sumB HK k : Nat) : Int))
  rw [Iv_set] at hs
  have e := BL_set 64 (sumK HK k) (sumK HK (k + 1)) k (fun i hi => by unfold sumK; by_cases h : i < k <;> simp [h] <;> omega)
  rw [show sumK HK (k + 1) k = sumB HK k from if_pos (by omega)] at e
  rw [e] at hs
  exact hs
set_option maxHeartbeats 2000000 in
set_option maxRecDepth 100000 in
theorem sum512_any (cu sq m len off : Nat → Nat) (w : World) (pp : Option Addr) (gp op np cp : Nat) (T : Tab w cu) (S : Sq w sq)
    (ml : ∀ i, m i < 256) (hP : Parts w pp gp op np len off m) (hnp : np < 4611686018427387904) (hm : ∀ i, i < roomOf (off np) → m (off np + i) = endK (off np) 8 i) :
    Calls Tryd.prog 52 #[.slice pp np cp] w fun e w' => e = .returned (.agg (Iv .u8 (BL 64 (sumB (hashK cu sq m ((off np + roomOf (off np)) / 128)))))) ∧ Below w.heap.size w w' := by
  have S' := S.below (W1_below w)
  have T' := T.below (W1_below w)
  have P' := hP.below (W1_below w)
  have ws := W1_size w
  clear S T hP
  go_enter Tryd.func52, Tryd.ntmps52
  go_upto_region 1 with fail
  generalize hV1 : World.alloc w _ = V1
  obtain rfl : V1 = W1 w := hV1.symm
  clear hV1
  have RG : (W1 w).rangeAt 0 0 (Iv .u64 (W8 sq)).toList := by
    intro j v hj
    have hl : j < 8 := by
      have := (List.getElem?_eq_some_iff.1 hj).1
      simpa [Iv, W8] using this
    rw [Nat.zero_add]
    have e := W8_get sq j hl
    rw [← Array.getElem?_toList, hj] at e
    rw [Option.some.inj e]
    exact S'.cell j hl
  go_upto_region 2 with (first | (refine wpList_load_mid rfl 103 _ rfl 0 0 rfl (Iv .u64 (W8 sq)).toList _ RG Tryd.underlying103 rfl (info_W8 sq) ?_) | (refine wpList_store_row rfl 103 _ _ rfl (w.heap.size + 1) (Iv .u64 (W8 sq)) rfl rfl 103 _ (Blk.new' (by rw [ws]) _ _) (info_W8 sq) (by simp only [Iv_size, W8_length]; rfl) (Iv_one _ _) ?_))
  generalize hV : World.setRow _ _ _ = V2
  have k2 : Below (W1 w).heap.size (W1 w) V2 := by
    subst hV
    exact below_setRow ((Below.refl _ _).alloc (Nat.le_refl _) _) (by rw [ws]; exact Nat.le_refl _) _
  have F1 : Blk V2 (w.heap.size + 1) 103 (Iv .u64 (W8 sq)) := by
    subst hV
    exact (Blk.new' (by rw [ws]) _ _).row _
  clear hV RG
  have BC := Lib.hid (blocks_any cu sq m len off (w.heap.size + 1) (W1 w) V2 pp gp op np cp T' k2 (by rw [ws]; exact Nat.le_refl _) F1 ml (fun i _ => S'.lt i) P' hnp hm)
  go_wp2_with fail
  refine BC.out.mono ?_
  rintro _ w1 ⟨⟨v, rfl⟩, hw1, k1⟩
  clear BC
  have HKl : ∀ i, i < 8 → hashK cu sq m ((off np + roomOf (off np)) / 128) i < 18446744073709551616 := hashK_lt cu sq m (fun i _ => S'.lt i) _
  obtain ⟨HK, hHK⟩ : ∃ HK, HK = hashK cu sq m ((off np + roomOf (off np)) / 128) := ⟨_, rfl⟩
  rw [← hHK] at hw1 HKl
  have HH := Lib.hid hHK
  clear hHK
  go_wp2_with fail
  have R1 : Blk w1 w.heap.size 35 (Iv .u8 (List.replicate 64 0)) := (Blk.new w 35 (Iv .u8 (List.replicate 64 0))).below k1 (by omega)
  have wl1 := R1.lt
  have wl2 := hw1.lt
  generalize hV : World.alloc w1 _ = V
  have G0 : SuV HK w1 V 0 := by
    subst hV
    refine ⟨?_, (Below.refl _ _).alloc (Nat.le_refl _) _⟩
    rw [show BL 64 (sumK HK 0) = List.replicate 64 0 from by unfold sumK; simp only [Nat.not_lt_zero, if_neg, not_false_eq_true]; rfl]
    exact Blk.new _ _ _
  clear hV
  go_loopw [5, 10] (fun _ i wr => ∃ k : Nat, k ≤ 64 ∧ i = .int .i64 k ∧ SuV HK w1 wr k) (fun _ i _ => 64 - (intOf i).toNat)
  case atStart => exact ⟨0, by omega, rfl, G0⟩
  case round =>
    obtain ⟨k, hk, rfl, F⟩ := hrel
    clear G0
    by_cases hlt : k < 64
    · have c1 : wr.cell? ⟨w.heap.size + 1, k / 8, none⟩ = some (.int .u64 ((HK (k / 8) : Nat) : Int)) := by
        rw [(hw1.below F.k wl2).cell, W8_get _ _ (by omega)]
      have c2 : wr.cell? ⟨w1.heap.size, k, none⟩ = some (.int .u8 ((sumK HK k k : Nat) : Int)) := by
        rw [F.o.cell, BL_get _ _ _ hlt]
      have f2 := F.o.frozen k
      have l1 := HKl (k / 8) (by omega)
      have i1 : ((k : Int) / 8).toNat = k / 8 := by omega
      have i2 : (0 : Int) ≤ (k : Int) / 8 := by omega
      have i3 : (k : Int) / 8 < 8 := by omega
      have i4 : IntKind.i64.wrap ((k : Int) / 8) = (k : Int) / 8 := by rw [IntKind.wrap_i64]; omega
      have i5 : IntKind.i64.wrap ((k : Int) % 8 * 8) = (k : Int) % 8 * 8 := by rw [IntKind.wrap_i64]; omega
      have i6 : IntKind.i64.wrap (56 - (k : Int) % 8 * 8) = 56 - (k : Int) % 8 * 8 := by rw [IntKind.wrap_i64]; omega
      have i7 : (0 : Int) ≤ 56 - (k : Int) % 8 * 8 := by omega
      have i8 : (56 - (k : Int) % 8 * 8).toNat = 56 - k % 8 * 8 := by omega
      have S1 := F.step
      rw [show ((sumB HK k : Nat) : Int) = ((HK (k / 8) : Nat) : Int) / 2 ^ (56 - k % 8 * 8) % 256 from by unfold sumB; push_cast; rfl] at S1
      have HS := Lib.hid S1
      clear F S1
      go_wp2
      exact ⟨⟨k + 1, by omega, by go_num, HS.out⟩, by simp [intOf]; omega⟩
    · obtain rfl : k = 64 := by omega
      rw [show ((64 : Nat) : Int) = 64 from rfl]
      have HO := F.o
      rw [show BL 64 (sumK HK 64) = BL 64 (sumB HK) from List.map_congr_left fun j hj => by rw [show sumK HK 64 j = sumB HK j from if_pos (List.mem_range.1 hj)]] at HO
      have HR := R1.below F.k wl1
      have HB : Below w.heap.size w wr := (W1_below w).trans ((k1.trans (F.k.mono (by omega))).mono (by omega))
      clear F
      go_wp2_with (first | (refine wpList_load_row rfl 35 _ rfl (w1.heap.size) rfl 35 _ (0, 0) _ HO Tryd.underlying35 rfl (info_B64 _) ?_) | (refine wpList_store_row rfl 35 _ _ rfl (w.heap.size) (Iv .u8 (BL 64 (sumB HK))) rfl rfl 35 _ HR (info_B64 _) (by rw [Iv_size, Iv_size, BL_length]; rfl) (Iv_one _ _) ?_))
      exact bodyPost_ret (results_cell_row rfl _ _ _ 35 _ (0, 0) _ rfl (HR.row _) Tryd.underlying35 rfl (info_B64 _)) rfl ⟨by rw [HH.out], below_setRow HB (by omega) _⟩
end Go.Proofs.YtegbnadnodlalaaDoor.H5
namespace Go.Proofs.YtegbnadnodlalaaDoor.H5
open Go.RowKit
def NI (l : List Nat) : List Int := l.map fun x => ((x : Nat) : Int)
theorem NI_length (l : List Nat) : (NI l).length = l.length := by simp [NI]
theorem NI_get (l : List Nat) (i : Nat) (h : i < l.length) : (Iv .u8 (NI l))[i]? = some (.int .u8 ((l[i] : Nat) : Int)) := by
  rw [Iv_get _ _ _ (by rw [NI_length]; exact h)]
  simp [NI, h]
theorem NI_inj {a b : List Nat} (h : NI a = NI b) : a = b := by
  unfold NI at h
  exact (List.map_inj_right fun x y e => by omega).1 h
/-- Every number is a byte. -/
def Bytes (l : List Nat) : Prop := ∀ x ∈ l, x < 256
theorem Bytes.nil : Bytes [] := fun _ h => by cases h
theorem Bytes.append {a b : List Nat} (ha : Bytes a) (hb : Bytes b) : Bytes (a ++ b) := fun x h => (List.mem_append.1 h).elim (ha x) (hb x)
theorem Bytes.take {a : List Nat} (ha : Bytes a) (n : Nat) : Bytes (a.take n) := fun x h => ha x (List.mem_of_mem_take h)
theorem Bytes.drop {a : List Nat} (ha : Bytes a) (n : Nat) : Bytes (a.drop n) := fun x h => ha x (List.mem_of_mem_drop h)
theorem Bytes.flatten {ls : List (List Nat)} (h : ∀ l ∈ ls, Bytes l) : Bytes ls.flatten := fun x hx => by
  obtain ⟨l, hl, hxl⟩ := List.mem_flatten.1 hx
  exact h l hl x hxl
theorem Bytes.getD {a : List Nat} (ha : Bytes a) (i : Nat) : a.getD i 0 < 256 := by
  by_cases h : i < a.length
  · simp [h]; exact ha _ (List.getElem_mem h)
  · rw [List.getD_eq_getElem?_getD, List.getElem?_eq_none (by omega)]
    decide
theorem Bytes.replicate (n : Nat) {x : Nat} (hx : x < 256) : Bytes (List.replicate n x) := fun y hy => by
  rw [(List.mem_replicate.1 hy).2]
  exact hx
/-- The bytes l lie in block g, from cell o on. -/
structure BA (w : World) (g o : Nat) (l : List Nat) : Prop where
  cell : ∀ (i : Nat) (h : i < l.length), w.cell? ⟨g, o + i, none⟩ = some (.int .u8 ((l[i] : Nat) : Int))
  blk : g < w.heap.size
theorem BA.below {w w1 : World} {g o : Nat} {l : List Nat} (h : BA w g o l) (hb : Below w.heap.size w w1) : BA w1 g o l :=
  ⟨fun i hi => (hb.cell (p := ⟨g, o + i, none⟩) h.blk).trans (h.cell i hi), Nat.lt_of_lt_of_le h.blk hb.size⟩
theorem BA.of_block {w w1 : World} {g o : Nat} {l : List Nat} (h : BA w g o l) (hb : w1.heap[g]? = w.heap[g]?) : BA w1 g o l := by
  have hlt : g < w1.heap.size := by
    rcases Nat.lt_or_ge g w1.heap.size with h1 | h1
    · exact h1
    · rw [Array.getElem?_eq_none h1, Array.getElem?_eq_getElem h.blk] at hb
      cases hb
  exact ⟨fun i hi => (cell_congr hb).trans (h.cell i hi), hlt⟩
theorem BA.drew {w : World} {g o : Nat} {l : List Nat} (h : BA w g o l) : BA w.drew g o l := ⟨h.cell, h.blk⟩
theorem BA.of_blk {w : World} {g : Nat} {t : TypeId} {l : List Nat} (h : Blk w g t (Iv .u8 (NI l))) : BA w g 0 l :=
  ⟨fun i hi => by rw [Nat.zero_add, h.cell, NI_get _ _ hi], h.lt⟩
theorem BA.take {w : World} {g o : Nat} {l : List Nat} (h : BA w g o l) (n : Nat) : BA w g o (l.take n) :=
  ⟨fun i hi => by
    have hl : i < l.length := by rw [List.length_take] at hi; omega
    rw [h.cell i hl, List.getElem_take], h.blk⟩
theorem BA.drop {w : World} {g o : Nat} {l : List Nat} (h : BA w g o l) (n : Nat) : BA w g (o + n) (l.drop n) :=
  ⟨fun i hi => by
    have hl : n + i < l.length := by rw [List.length_drop] at hi; omega
    rw [Nat.add_assoc, h.cell (n + i) hl, List.getElem_drop], h.blk⟩
/-- A slice that reads as the bytes l; an empty one may be nil. -/
def SB (w : World) (v : Value) (l : List Nat) : Prop := ∃ p c, v = .slice p l.length c ∧ l.length ≤ c ∧ (l = [] ∨ ∃ g o, p = some ⟨g, o, none⟩ ∧ BA w g o l)
theorem SB.below {w w1 : World} {v : Value} {l : List Nat} (h : SB w v l) (hb : Below w.heap.size w w1) : SB w1 v l := by
  obtain ⟨p, c, h1, h2, h3⟩ := h
  refine ⟨p, c, h1, h2, ?_⟩
  rcases h3 with h3 | ⟨g, o, h4, h5⟩
  · exact Or.inl h3
  · exact Or.inr ⟨g, o, h4, h5.below hb⟩
theorem SB.drew {w : World} {v : Value} {l : List Nat} (h : SB w v l) : SB w.drew v l := h.below (below_drew (Below.refl _ _))
theorem SB.of_ba {w : World} {g o c : Nat} {l : List Nat} (h : BA w g o l) (hc : l.length ≤ c) : SB w (.slice (some ⟨g, o, none⟩) l.length c) l := ⟨_, c, rfl, hc, Or.inr ⟨g, o, rfl, h⟩⟩
theorem SB.of_ba' {w : World} {g o c n : Nat} {l : List Nat} (h : BA w g o l) (hn : n = l.length) (hc : l.length ≤ c) : SB w (.slice (some ⟨g, o, none⟩) n c) l := hn ▸ SB.of_ba h hc
theorem SB.nil (w : World) (p : Option Addr) (c : Nat) : SB w (.slice p 0 c) [] := ⟨p, c, rfl, Nat.zero_le _, Or.inl rfl⟩
/-- A slice of such slices. -/
def SP (w : World) (v : Value) (ls : List (List Nat)) : Prop := ∃ p c, v = .slice p ls.length c ∧ ls.length ≤ c ∧ (ls = [] ∨ ∃ g o, p = some ⟨g, o, none⟩ ∧ g < w.heap.size ∧ ∀ (i : Nat) (h : i < ls.length), ∃ u, w.cell? ⟨g, o + i, none⟩ = some u ∧ SB w u ls[i])
theorem SP.below {w w1 : World} {v : Value} {ls : List (List Nat)} (h : SP w v ls) (hb : Below w.heap.size w w1) : SP w1 v ls := by
  obtain ⟨p, c, h1, h2, h3⟩ := h
  refine ⟨p, c, h1, h2, ?_⟩
  rcases h3 with h3 | ⟨g, o, h4, h5, h6⟩
  · exact Or.inl h3
  · refine Or.inr ⟨g, o, h4, Nat.lt_of_lt_of_le h5 hb.size, fun i hi => ?_⟩
    obtain ⟨u, hu, hs⟩ := h6 i hi
    exact ⟨u, (hb.cell (p := ⟨g, o + i, none⟩) h5).trans hu, hs.below hb⟩
theorem SP.drew {w : World} {v : Value} {ls : List (List Nat)} (h : SP w v ls) : SP w.drew v ls := h.below (below_drew (Below.refl _ _))
/-- The bytes behind n. -/
def endL (n : Nat) : List Nat := (List.range (roomOf n)).map (endK n 8)
def padded (l : List Nat) : List Nat := l ++ endL l.length
/-- The sum of bytes, by lists; cu, sq: the tables. -/
def sha (cu sq : Nat → Nat) (l : List Nat) : List Nat := (List.range 64).map (sumB (hashK cu sq (fun i => (padded l).getD i 0) ((l.length + roomOf l.length) / 128)))
theorem sha_length (cu sq : Nat → Nat) (l : List Nat) : (sha cu sq l).length = 64 := by simp [sha]
theorem sha_bytes (cu sq : Nat → Nat) (l : List Nat) : Bytes (sha cu sq l) := fun x h => by
  unfold sha at h
  obtain ⟨i, _, rfl⟩ := List.mem_map.1 h
  exact Nat.mod_lt _ (by decide)
theorem sha_NI (cu sq : Nat → Nat) (l : List Nat) : BL 64 (sumB (hashK cu sq (fun i => (padded l).getD i 0) ((l.length + roomOf l.length) / 128))) = NI (sha cu sq l) := by
  unfold sha NI BL
  rw [List.map_map]
  rfl
theorem endL_bytes (n : Nat) : Bytes (endL n) := fun x h => by
  obtain ⟨i, _, rfl⟩ := List.mem_map.1 h
  exact endK_lt _ _ _
theorem padded_bytes {l : List Nat} (h : Bytes l) : Bytes (padded l) := h.append (endL_bytes _)
theorem flat_take_succ (ls : List (List Nat)) (i : Nat) : (ls.take (i + 1)).flatten.length = (ls.take i).flatten.length + (ls.getD i []).length := by
  by_cases h : i < ls.length
  · rw [← List.take_append_getElem h, List.flatten_append, List.length_append, List.getD_eq_getElem?_getD, List.getElem?_eq_getElem h]
    simp
  · rw [List.take_of_length_le (show ls.length ≤ i + 1 by omega), List.take_of_length_le (show ls.length ≤ i by omega), List.getD_eq_getElem?_getD, List.getElem?_eq_none (show ls.length ≤ i by omega)]
    simp
theorem flat_get (ls : List (List Nat)) (i j : Nat) (hi : i < ls.length) (hj : j < ls[i].length) : ls.flatten[(ls.take i).flatten.length + j]? = some ls[i][j] := by
  have e : ls.flatten = (ls.take i).flatten ++ (ls[i] ++ (ls.drop (i + 1)).flatten) := by
    conv => lhs; rw [← List.take_append_drop i ls]
    rw [List.flatten_append, List.drop_eq_getElem_cons hi]
    rfl
  rw [e, List.getElem?_append_right (by omega), Nat.add_sub_cancel_left, List.getElem?_append_left hj, List.getElem?_eq_getElem hj]
set_option maxHeartbeats 1000000 in
theorem sum512_l (cu sq : Nat → Nat) (w : World) (v : Value) (ls : List (List Nat)) (T : Tab w cu) (S : Sq w sq) (hp : SP w v ls) (hb : ∀ l ∈ ls, Bytes l) (hn : ls.length < 4611686018427387904) (hl : ls.flatten.length < 2305843009213693952) :
    Calls Tryd.prog 52 #[v] w fun e w' => e = .returned (.agg (Iv .u8 (NI (sha cu sq ls.flatten)))) ∧ Below w.heap.size w w' := by
  obtain ⟨p, c, rfl, hc, hls⟩ := hp
  have off_all : (ls.take ls.length).flatten.length = ls.flatten.length := by rw [List.take_length]
  have hbf := Bytes.flatten hb
  have key : ∀ (g o : Nat), (0 < ls.length → p = some ⟨g, o, none⟩) → (0 < ls.length → g < w.heap.size) → (∀ (i : Nat) (h : i < ls.length), ∃ u, w.cell? ⟨g, o + i, none⟩ = some u ∧ SB w u ls[i]) →
      Parts w p g o ls.length (fun i => (ls.getD i []).length) (fun i => (ls.take i).flatten.length) (fun i => (padded ls.flatten).getD i 0) := by
    intro g o h1 h2 h3
    refine ⟨h1, fun i hi => ?_, h2, by simp, fun i => flat_take_succ ls i, by rw [off_all]; exact hl⟩
    obtain ⟨u, hu, q, cq, rfl, hq, hr⟩ := h3 i hi
    have eg : ls.getD i [] = ls[i] := by simp [hi]
    rw [eg]
    have fin : ∀ (g2 o2 : Nat), g2 < w.heap.size → (0 < ls[i].length → q = some ⟨g2, o2, none⟩) → (∀ (j : Nat) (hj : j < ls[i].length), w.cell? ⟨g2, o2 + j, none⟩ = some (.int .u8 ((ls[i][j] : Nat) : Int))) →
        ∃ q' : Option Addr, ∃ c' g' o' : Nat, w.cell? ⟨g, o + i, none⟩ = some (.slice q' ls[i].length c') ∧ ls[i].length ≤ c' ∧ g' < w.heap.size ∧ (0 < ls[i].length → q' = some ⟨g', o', none⟩) ∧ ∀ j, j < ls[i].length → w.cell? ⟨g', o' + j, none⟩ = some (.int .u8 (((padded ls.flatten).getD ((ls.take i).flatten.length + j) 0 : Nat) : Int)) := by
      intro g2 o2 k1 k2 k3
      refine ⟨q, cq, g2, o2, hu, hq, k1, k2, fun j hj => ?_⟩
      rw [k3 j hj]
      have hg := flat_get ls i j hi hj
      have hlt : (ls.take i).flatten.length + j < ls.flatten.length := by
        rcases Nat.lt_or_ge ((ls.take i).flatten.length + j) ls.flatten.length with h | h
        · exact h
        · rw [List.getElem?_eq_none h] at hg
          cases hg
      rw [List.getD_eq_getElem?_getD]
      unfold padded
      rw [List.getElem?_append_left hlt, hg]
      rfl
    rcases hr with h0 | ⟨g2, o2, rfl, hba⟩
    · rw [h0]
      refine ⟨q, cq, g, 0, ?_, by rw [h0] at hq; exact hq, h2 (by omega), fun h => by simp at h, fun j hj => by simp at hj⟩
      rw [hu, h0]
    · exact fin g2 o2 hba.blk (fun _ => rfl) hba.cell
  have hm : ∀ i, i < roomOf ((ls.take ls.length).flatten.length) → (padded ls.flatten).getD ((ls.take ls.length).flatten.length + i) 0 = endK ((ls.take ls.length).flatten.length) 8 i := by
    intro i hi
    rw [off_all] at hi ⊢
    rw [List.getD_eq_getElem?_getD]
    unfold padded
    rw [List.getElem?_append_right (by omega), Nat.add_sub_cancel_left]
    unfold endL
    rw [List.getElem?_map, List.getElem?_range hi]
    rfl
  have fin : ∀ g o, Parts w p g o ls.length (fun i => (ls.getD i []).length) (fun i => (ls.take i).flatten.length) (fun i => (padded ls.flatten).getD i 0) →
      Calls Tryd.prog 52 #[.slice p ls.length c] w fun e w' => e = .returned (.agg (Iv .u8 (NI (sha cu sq ls.flatten)))) ∧ Below w.heap.size w w' := by
    intro g o P
    have h := sum512_any cu sq _ _ _ w p g o ls.length c T S (fun i => (padded_bytes hbf).getD i) P hn hm
    rw [off_all, sha_NI] at h
    exact h
  rcases hls with h0 | ⟨g, o, rfl, hg, hcell⟩
  · exact fin 0 0 (key 0 0 (fun h => by rw [h0] at h; simp at h) (fun h => by rw [h0] at h; simp at h) (fun i hi => by rw [h0] at hi; simp at hi))
  · exact fin g o (key g o (fun _ => rfl) (fun _ => hg) hcell)
end Go.Proofs.YtegbnadnodlalaaDoor.H5
