/- sha2: bytes put into a block, however many come at once. sha2: all parts put into blocks, and the ending behind them. -/
import Derived.Test.YtdmhngkedgkndaaDoorMHe0MHf
import Derived.Laws.CopyOwn
namespace Go.Proofs.YtdmhngkedgkndaaDoor
open Go.RowKit
/-- The words behind k whole blocks of the bytes m. -/
def hashK (cu h0 m : Nat → Nat) : Nat → Nat → Nat
  | 0 => h0
  | k + 1 => comp cu (hashK cu h0 m k) fun i => m (64 * k + i)
theorem hashK_lt (cu h0 m : Nat → Nat) (hl : ∀ i, i < 8 → h0 i < 4294967296) : ∀ k i, i < 8 → hashK cu h0 m k i < 4294967296
  | 0, i, h => hl i h
  | k + 1, i, _ => by
    show comp _ _ _ i < _
    unfold comp
    exact Nat.mod_lt _ (by decide)
/-- What is handed to each full block. -/
def EachV (gw : Nat) : Value := .func (.func 37) #[] #[.pointer (some ⟨gw, 0, none⟩)]
/-- What stays as it is. -/
structure FillC (cu h0 m : Nat → Nat) (B gf gk gw : Nat) (w0 : World) : Prop where
  tab : Tab w0 cu
  size : w0.heap.size = B
  bf : B ≤ gf
  bk : B ≤ gk
  bw : B ≤ gw
  fk : gf ≠ gk
  fw : gf ≠ gw
  kw : gk ≠ gw
  ml : ∀ i, m i < 256
  hl : ∀ i, i < 8 → h0 i < 4294967296
/-- q whole blocks are handed over, h bytes of the next stand. -/
structure Fill (cu h0 m : Nat → Nat) (B gf gk gw : Nat) (w0 w : World) (q h : Nat) : Prop where
  f : Blk w gf 80 #[.slice (some ⟨gk, 0, none⟩) 64 64, .int .i64 (h : Int), EachV gw]
  k : ∃ g : Nat → Nat, Blk w gk 5 (Iv .u8 (BL 64 g)) ∧ ∀ i, i < h → g i = m (64 * q + i)
  wd : Blk w gw 71 (Iv .u32 (W8 (hashK cu h0 m q)))
  far : Below B w0 w
def lenV : Value → Nat
  | .slice _ n _ => n
  | _ => 0
theorem heap_grown {w w' : World} {g j : Nat} (h : w.grownBy w' (some j)) (hg : g < w.heap.size) (hj : g ≠ j) : w'.heap[g]? = w.heap[g]? :=
  h.block g hg (by intro e; injection e with e; first | exact hj e | exact hj e.symm)
theorem blk_grown {w w' : World} {g j : Nat} {t : TypeId} {cs : Array Value} (hb : Blk w g t cs) (h : w.grownBy w' (some j)) (hj : g ≠ j) : Blk w' g t cs :=
  (heap_grown h hb.lt hj).trans hb
theorem below_grown {w0 w w' : World} {B j : Nat} (hb : Below B w0 w) (h : w.grownBy w' (some j)) (hj : B ≤ j) (hB : B ≤ w0.heap.size) : Below B w0 w' :=
  hb.trans ⟨h.os, h.tape, h.output, h.size, fun k hk => heap_grown h (Nat.lt_of_lt_of_le hk (Nat.le_trans hB hb.size)) (by omega)⟩
theorem splice_BL (g m : Nat → Nat) (h k a : Nat) (hk : h + k ≤ 64) : splice (Iv .u8 (BL 64 g)).toList h ((List.range k).map fun i => Value.int .u8 ((m (a + i) : Nat) : Int)) = (Iv .u8 (BL 64 fun i => if i < h then g i else if i < h + k then m (a + (i - h)) else g i)).toList := by
  unfold splice Iv BL
  simp only [List.map_map]
  apply List.ext_getElem
  · simp; omega
  intro i h1 h2
  simp only [List.length_map, List.length_range] at h2
  simp only [List.getElem_append, List.getElem_take, List.getElem_drop, List.getElem_map, List.getElem_range, List.length_take, List.length_map, List.length_range, Function.comp]
  have e1 : min h 64 = h := by omega
  simp only [e1]
  by_cases c1 : i < h
  · simp [c1]
  · by_cases c2 : i < h + k
    · have c3 : i - h < k := by omega
      simp [c1, c2, c3]
    · have c3 : ¬ i - h < k := by omega
      simp only [c1, c2, c3, dif_neg, not_false_eq_true, if_neg]
      rw [show h + k + (i - h - k) = i by omega]
set_option maxHeartbeats 2000000 in
set_option maxRecDepth 100000 in
theorem add_any (cu h0 m : Nat → Nat) (B gf gk gw : Nat) (w0 w : World) (q h : Nat) (C : FillC cu h0 m B gf gk gw w0) (F0 : Fill cu h0 m B gf gk gw w0 w q h) (hh : h < 64)
    (p : Option Addr) (gb o l c : Nat) (hl : l < 4611686018427387904) (hc : l ≤ c) (hp : 0 < l → p = some ⟨gb, o, none⟩) (hs : ∀ i, i < l → w.cell? ⟨gb, o + i, none⟩ = some (.int .u8 ((m (64 * q + h + i) : Nat) : Int)))
    (hb : gb < w.heap.size) (hf : gb ≠ gf) (hk : gb ≠ gk) (hw : gb ≠ gw) :
    Calls Tryd.prog 44 #[.pointer (some ⟨gf, 0, none⟩), .slice p l c] w fun e w' => (∃ v, e = .returned v) ∧ ∃ q' h', h' < 64 ∧ 64 * q' + h' = 64 * q + h + l ∧ Fill cu h0 m B gf gk gw w0 w' q' h' := by
  obtain ⟨n, hn⟩ : ∃ n, n = 64 * q + h := ⟨_, rfl⟩
  rw [← hn] at hs
  go_enter Tryd.func44, Tryd.ntmps44
  go_wp2
  go_loopw [1, 4] (fun v _ wr => ∃ d q h c' : Nat, ∃ p' : Option Addr, d ≤ l ∧ h < 64 ∧ n + d = 64 * q + h ∧ v = .slice p' (l - d) c' ∧ (d < l → p' = some ⟨gb, o + d, none⟩) ∧ l - d ≤ c' ∧ (∀ i, i < l → wr.cell? ⟨gb, o + i, none⟩ = some (.int .u8 ((m (n + i) : Nat) : Int))) ∧ gb < wr.heap.size ∧ Fill cu h0 m B gf gk gw w0 wr q h) (fun v _ _ => lenV v)
  case atStart => exact ⟨0, q, h, c, p, by omega, hh, by omega, rfl, hp, hc, hs, hb, F0⟩
  case round =>
    clear F0 hp hc hs hb
    obtain ⟨d, q, e, c', p', hd, hh, hn, rfl, hp, hc, hs, hb, F⟩ := hrel
    by_cases hlt : d < l
    · obtain rfl := hp hlt
      obtain ⟨L, hL⟩ : ∃ L, L = l - d := ⟨_, rfl⟩
      rw [← hL] at hc ⊢
      have hL0 : 0 < L := by omega
      have HL := Lib.hid hL
      clear hL
      go_upto_region 1 with fail
      refine wp_region_still_tail 10 (by kernel_rfl) (by kernel_rfl) ?_
      simp only [List.take_succ_cons, List.take_zero, List.drop_succ_cons, List.drop_zero]
      change wpStill _ _ (World.drew wr) (fun a' => wpList _ _ _ _ a' (World.drew wr)) _ _
      have c0 : (World.drew wr).cell? ⟨gf, 0, none⟩ = some (.slice (some ⟨gk, 0, none⟩) 64 64) := F.f.drew.cell 0
      have c1 : (World.drew wr).cell? ⟨gf, 1, none⟩ = some (.int .i64 (e : Int)) := F.f.drew.cell 1
      have i1 : (0 : Int) ≤ (e : Int) := by omega
      have i2 : (e : Int) ≤ 64 := by omega
      have i3 : ¬ 64 = e := by omega
      repeat still_step
      refine wpStill_nil ?_
      clear c0 c1 i1 i2 i3
      obtain ⟨g, hg, hg2⟩ := F.k
      obtain ⟨k, hk2⟩ : ∃ k, k = Nat.min L (64 - e) := ⟨_, rfl⟩
      have k0 : 0 < k := by rw [hk2]; exact Nat.lt_min.2 ⟨hL0, by omega⟩
      have k1 : k ≤ L := by rw [hk2]; exact Nat.min_le_left _ _
      have k2 : k ≤ 64 - e := by rw [hk2]; exact Nat.min_le_right _ _
      have k3 : k = L ∨ k = 64 - e := by rw [hk2]; simp only [Nat.min_def]; split <;> simp
      refine wpList_copy_own rfl _ _ _ _ rfl 5 Tryd.underlying22 (by kernel_rfl) gk e _ _ ⟨gb, o + d, none⟩ _ _ rfl rfl (Iv .u8 (BL 64 g)) 5 hg.drew ((List.range k).map fun i => Value.int .u8 ((m (n + d + i) : Nat) : Int)) (by simp; exact hk2) ?_ (by simp [Iv, BL]; omega) ?_ ?_
      · intro j v hj
        have hjk : j < k := by
          have := List.getElem?_eq_some_iff.1 hj
          obtain ⟨h1, _⟩ := this
          simpa using h1
        rw [List.getElem?_map, List.getElem?_range hjk] at hj
        cases hj
        have := hs (d + j) (by have := HL.out; omega)
        rw [show n + (d + j) = n + d + j by omega] at this
        rw [show o + (d + j) = o + d + j by omega] at this
        have ea : (⟨gb, o + d, none⟩ : Addr).add j = ⟨gb, o + d + j, none⟩ := by simp [Addr.add]
        rw [ea]
        exact this
      · intro v hv
        simp only [List.mem_map] at hv
        obtain ⟨i, _, rfl⟩ := hv
        rfl
      have es := splice_BL g m e k (n + d) (by omega)
      unfold splice at es
      simp only [List.length_map, List.length_range] at es
      simp only [List.length_map, List.length_range]
      rw [es]
      clear es
      obtain ⟨G, hG⟩ : ∃ G : Nat → Nat, G = fun i => if i < e then g i else if i < e + k then m (n + d + (i - e)) else g i := ⟨_, rfl⟩
      rw [← hG]
      have G1 : ∀ i, i < e + k → G i = m (64 * q + i) := by
        intro i hi
        rw [hG]
        show (if i < e then g i else if i < e + k then m (n + d + (i - e)) else g i) = _
        by_cases hc : i < e
        · rw [if_pos hc, hg2 i hc]
        · rw [if_neg hc, if_pos hi, show n + d + (i - e) = 64 * q + i by omega]
      have bk1 : Blk ((World.drew wr).setRow gk (Iv .u8 (BL 64 G)).toList.toArray) gk 5 (Iv .u8 (BL 64 G)) := hg.drew.row _
      have bf1 := F.f.drew.rowFar C.fk (Iv .u8 (BL 64 G)).toList.toArray
      have bw1 := F.wd.drew.rowFar C.kw.symm (Iv .u8 (BL 64 G)).toList.toArray
      have fr1 := below_setRow (below_drew F.far) C.bk (Iv .u8 (BL 64 G)).toList.toArray
      have hs1 : ∀ i, i < l → ((World.drew wr).setRow gk (Iv .u8 (BL 64 G)).toList.toArray).cell? ⟨gb, o + i, none⟩ = some (.int .u8 ((m (n + i) : Nat) : Int)) := fun i hi => (cell_congr (setRow_other _ gk gb _ hk)).trans (hs i hi)
      have hb1 : gb < ((World.drew wr).setRow gk (Iv .u8 (BL 64 G)).toList.toArray).heap.size := by simp; exact hb
      generalize World.setRow _ _ _ = V at bk1 bf1 bw1 fr1 hs1 hb1 ⊢
      clear F hg hg2 hs hb hG hk2
      have c1 : V.cell? ⟨gf, 1, none⟩ = some (.int .i64 (e : Int)) := bf1.cell 1
      have f1 := bf1.frozen 1
      have i1 : IntKind.i64.wrap ((e : Int) + (k : Int)) = (e : Int) + (k : Int) := by rw [IntKind.wrap_i64]; omega
      go_upto_region 2 with fail
      go_wp2_with fail
      all_goals
        have bf2 : Blk (World.setCell V ⟨gf, 1, none⟩ (.int .i64 ((e : Int) + (k : Int)))) gf 80 #[.slice (some ⟨gk, 0, none⟩) 64 64, .int .i64 ((e : Int) + (k : Int)), EachV gw] := bf1.set 1 _
        have bk2 := bk1.far (p := ⟨gf, 1, none⟩) C.fk.symm (.int .i64 ((e : Int) + (k : Int)))
        have bw2 := bw1.far (p := ⟨gf, 1, none⟩) C.fw.symm (.int .i64 ((e : Int) + (k : Int)))
        have fr2 := fr1.setCell (p := ⟨gf, 1, none⟩) C.bf (.int .i64 ((e : Int) + (k : Int)))
        have hs2 : ∀ i, i < l → (World.setCell V ⟨gf, 1, none⟩ (.int .i64 ((e : Int) + (k : Int)))).cell? ⟨gb, o + i, none⟩ = some (.int .u8 ((m (n + i) : Nat) : Int)) := fun i hi => (cell_congr (heap_setCell_other V ⟨gf, 1, none⟩ gb _ hf)).trans (hs1 i hi)
        have hb2 : gb < (World.setCell V ⟨gf, 1, none⟩ (.int .i64 ((e : Int) + (k : Int)))).heap.size := by simpa [World.setCell] using hb1
        generalize World.setCell V _ _ = U at bf2 bk2 bw2 fr2 hs2 hb2 ⊢
        clear bf1 bk1 bw1 fr1 hs1 hb1 c1 f1 i1
        refine wp_region_still (by kernel_rfl) (by kernel_rfl) ?_
        change wpStill _ _ (World.drew U) (fun a' => _) _ _
        have c0 : (World.drew U).cell? ⟨gf, 0, none⟩ = some (.slice (some ⟨gk, 0, none⟩) 64 64) := bf2.drew.cell 0
        have c1 : (World.drew U).cell? ⟨gf, 1, none⟩ = some (.int .i64 ((e : Int) + (k : Int))) := bf2.drew.cell 1
        repeat still_step
        refine wpStill_nil ?_
        clear c0 c1
        by_cases hfull : (e : Int) + (k : Int) = 64
        · go_upto_region 5 with fail
          refine wp_region_still_tail 8 (by kernel_rfl) (by kernel_rfl) ?_
          simp only [List.take_succ_cons, List.take_zero, List.drop_succ_cons, List.drop_zero]
          change wpStill _ _ (World.drew (World.drew U)) (fun a' => wpList _ _ _ _ a' (World.drew (World.drew U))) _ _
          have c0 : (World.drew (World.drew U)).cell? ⟨gf, 0, none⟩ = some (.slice (some ⟨gk, 0, none⟩) 64 64) := bf2.drew.drew.cell 0
          have c2 : (World.drew (World.drew U)).cell? ⟨gf, 2, none⟩ = some (EachV gw) := bf2.drew.drew.cell 2
          unfold EachV at c2
          repeat still_step
          refine wpStill_nil ?_
          clear c0 c2
          have BY : By (World.drew (World.drew U)) gk 0 64 (fun i => m (64 * q + i)) := ⟨fun i hi => by
            rw [Nat.zero_add, bk2.drew.drew.cell, BL_get _ _ _ hi, G1 i (by omega)], fun i => C.ml _, bk2.drew.drew.lt⟩
          have TB : Tab (World.drew (World.drew U)) cu := C.tab.below (by rw [C.size]; exact below_drew (below_drew fr2))
          have EC := Lib.hid (each_any cu (hashK cu h0 m q) (fun i => m (64 * q + i)) gk 0 64 gw (World.drew (World.drew U)) BY TB bw2.drew.drew (hashK_lt cu h0 m C.hl q))
          clear BY TB
          go_wp2_with fail
          refine EC.out.mono ?_
          rintro _ w1 ⟨⟨v, rfl⟩, gr, bw3⟩
          have bf3 := blk_grown bf2.drew.drew gr C.fw
          have bk3 := blk_grown bk2.drew.drew gr C.kw
          have fr3 := below_grown (below_drew (below_drew fr2)) gr C.bw (by rw [C.size]; exact Nat.le_refl _)
          have hs3 : ∀ i, i < l → w1.cell? ⟨gb, o + i, none⟩ = some (.int .u8 ((m (n + i) : Nat) : Int)) := fun i hi => (cell_congr (heap_grown gr hb2 hw)).trans (hs2 i hi)
          have hb3 : gb < w1.heap.size := Nat.lt_of_lt_of_le hb2 gr.size
          clear EC gr bf2 bk2 bw2 fr2 hs2 hb2
          have c1 : w1.cell? ⟨gf, 1, none⟩ = some (.int .i64 ((e : Int) + (k : Int))) := bf3.cell 1
          have f1 := bf3.frozen 1
          have FF : Fill cu h0 m B gf gk gw w0 (World.setCell w1 ⟨gf, 1, none⟩ (.int .i64 0)) (q + 1) 0 :=
            ⟨bf3.set 1 _, ⟨G, bk3.far (p := ⟨gf, 1, none⟩) C.fk.symm _, fun i hi => absurd hi (by omega)⟩, bw3.far (p := ⟨gf, 1, none⟩) C.fw.symm _, fr3.setCell (p := ⟨gf, 1, none⟩) C.bf _⟩
          have hs4 : ∀ i, i < l → (World.setCell w1 ⟨gf, 1, none⟩ (.int .i64 0)).cell? ⟨gb, o + i, none⟩ = some (.int .u8 ((m (n + i) : Nat) : Int)) := fun i hi => (cell_congr (heap_setCell_other w1 ⟨gf, 1, none⟩ gb _ hf)).trans (hs3 i hi)
          have hb4 : gb < (World.setCell w1 ⟨gf, 1, none⟩ (.int .i64 0)).heap.size := by simpa [World.setCell] using hb3
          have A := Lib.hid (And.intro FF (And.intro hs4 hb4))
          clear FF hs4 hb4 bf3 bk3 bw3 fr3 hs3 hb3
          go_wp2
          have hLd := HL.out
          refine ⟨⟨d + k, q + 1, 0, _, _, by omega, by omega, by omega, by rw [show l - (d + k) = L - k by omega], ?_, by omega, A.out.2.1, A.out.2.2, A.out.1⟩, by simp only [lenV]; omega⟩
          · first
              | (intro hx; exfalso; omega)
              | (intro _; simp; omega)
              | (intro _; rw [Nat.add_assoc])
        · go_wp2
          have hLd := HL.out
          refine ⟨⟨d + k, q, e + k, _, _, by omega, by omega, by omega, by rw [show l - (d + k) = L - k by omega], ?_, by omega, hs2, hb2, ⟨?_, ⟨G, bk2, G1⟩, bw2, below_drew fr2⟩⟩, by simp only [lenV]; omega⟩
          · first
              | (intro hx; exfalso; omega)
              | (intro _; simp; omega)
              | (intro _; rw [Nat.add_assoc])
          · rw [Int.natCast_add]
            exact bf2
    · obtain rfl : d = l := by omega
      rw [Nat.sub_self]
      go_wp2
      refine bodyPost_end (results_none rfl _ _ _) rfl ?_
      exact ⟨⟨_, rfl⟩, q, e, hh, by omega, F⟩
end Go.Proofs.YtdmhngkedgkndaaDoor
namespace Go.Proofs.YtdmhngkedgkndaaDoor
open Go.RowKit
/-- A slice of parts: their lengths, where each begins, the bytes m. -/
structure Parts (w : World) (pp : Option Addr) (gp op np : Nat) (len off m : Nat → Nat) : Prop where
  at_ : 0 < np → pp = some ⟨gp, op, none⟩
  cell : ∀ i, i < np → ∃ p : Option Addr, ∃ c g o : Nat, w.cell? ⟨gp, op + i, none⟩ = some (.slice p (len i) c) ∧ len i ≤ c ∧ g < w.heap.size ∧ (0 < len i → p = some ⟨g, o, none⟩) ∧ ∀ j, j < len i → w.cell? ⟨g, o + j, none⟩ = some (.int .u8 ((m (off i + j) : Nat) : Int))
  blk : 0 < np → gp < w.heap.size
  zero : off 0 = 0
  next : ∀ i, off (i + 1) = off i + len i
  big : off np < 2305843009213693952
theorem Parts.mono {w : World} {pp : Option Addr} {gp op np : Nat} {len off m : Nat → Nat} (h : Parts w pp gp op np len off m) {i j : Nat} (hij : i ≤ j) : off i ≤ off j := by
  induction j with
  | zero => obtain rfl : i = 0 := by omega
            exact Nat.le_refl _
  | succ j ih =>
    rcases Nat.lt_or_ge i (j + 1) with h1 | h1
    · have := ih (by omega)
      rw [h.next]
      omega
    · obtain rfl : i = j + 1 := by omega
      exact Nat.le_refl _
theorem store_new {P : Program} (W : World) (cs : Array Value) (t : TypeId) (i : Nat) (v : Value) (h1 : v.oneCell' = true) (hi : i < cs.size) :
    (store ⟨W.heap.size, i, none⟩ v).run P (W.alloc (.cells cs t)) = .ok () (W.alloc (.cells (cs.setIfInBounds i v) t)) := by
  have hb := Blk.new W t cs
  rw [run_store _ _ _ _ _ h1, hb.cell, Array.getElem?_eq_getElem hi]
  simp only [hb.frozen, World.setCell_alloc_new]
  rfl
set_option maxHeartbeats 2000000 in
set_option maxRecDepth 100000 in
theorem blocks_any (cu h0 m len off : Nat → Nat) (gw : Nat) (w0 w : World) (pp : Option Addr) (gp op np cp : Nat) (T : Tab w0 cu) (far : Below w0.heap.size w0 w) (hgw : w0.heap.size ≤ gw) (hw : Blk w gw 71 (Iv .u32 (W8 h0)))
    (ml : ∀ i, m i < 256) (hl : ∀ i, i < 8 → h0 i < 4294967296) (hP : Parts w0 pp gp op np len off m) (hnp : np < 4611686018427387904) (hm : ∀ i, i < roomOf (off np) → m (off np + i) = endK (off np) 8 i) :
    Calls Tryd.prog 36 #[.int .i64 64, .slice pp np cp, EachV gw] w fun e w' => (∃ v, e = .returned v) ∧ Blk w' gw 71 (Iv .u32 (W8 (hashK cu h0 m ((off np + roomOf (off np)) / 64)))) ∧ Below w0.heap.size w0 w' := by
  have hmk := make8 64 (by omega)
  rw [show ((64 : Nat) : Int) = 64 from rfl] at hmk
  unfold EachV
  have hst : (store ⟨w.heap.size + 1, 2, none⟩ (.func (.func 37) #[] #[.pointer (some ⟨gw, 0, none⟩)])).run Tryd.prog ((w.alloc (.cells (Iv .u8 (BL 64 fun _ => 0)) 5)).alloc (.cells #[.slice (some ⟨w.heap.size, 0, none⟩) 64 64, .int .i64 0, .nilFunc] 80)) = .ok () ((w.alloc (.cells (Iv .u8 (BL 64 fun _ => 0)) 5)).alloc (.cells #[.slice (some ⟨w.heap.size, 0, none⟩) 64 64, .int .i64 0, .func (.func 37) #[] #[.pointer (some ⟨gw, 0, none⟩)]] 80)) := by
    have h := store_new (P := Tryd.prog) (w.alloc (.cells (Iv .u8 (BL 64 fun _ => 0)) 5)) #[.slice (some ⟨w.heap.size, 0, none⟩) 64 64, .int .i64 0, .nilFunc] 80 2 (.func (.func 37) #[] #[.pointer (some ⟨gw, 0, none⟩)]) rfl (by simp)
    rw [size_alloc] at h
    exact h
  go_enter Tryd.func36, Tryd.ntmps36
  go_wp2_with fail
  have wl := hw.lt
  have wB := far.size
  have C : FillC cu h0 m w0.heap.size (w.heap.size + 1) w.heap.size gw w0 := ⟨T, rfl, by omega, wB, hgw, by omega, by omega, by omega, ml, hl⟩
  generalize hV : World.alloc _ (.cells #[.slice (some ⟨w.heap.size, 0, none⟩) 64 64, .int .i64 0, .func (.func 37) #[] #[.pointer (some ⟨gw, 0, none⟩)]] 80) = V
  have F0 : Fill cu h0 m w0.heap.size (w.heap.size + 1) w.heap.size gw w0 V 0 0 := by
    subst hV
    refine ⟨Blk.new' (by simp) _ _, ⟨fun _ => 0, (Blk.new _ _ _).alloc _, fun i hi => absurd hi (by omega)⟩, (hw.alloc _).alloc _, (far.alloc wB _).alloc (by simp; omega) _⟩
  clear hV hst hmk hw far
  generalize w.heap.size + 1 = gf at C F0 ⊢
  generalize w.heap.size = gk at C F0 ⊢
  go_loopw [7, 9, 16] (fun u _ v wr => ∃ i q h : Nat, i ≤ np ∧ v = .int .i64 i ∧ u = .int .i64 (off i : Nat) ∧ h < 64 ∧ off i = 64 * q + h ∧ Fill cu h0 m w0.heap.size gf gk gw w0 wr q h) (fun _ _ v _ => np - (intOf v).toNat)
  case atStart => exact ⟨0, 0, 0, by omega, rfl, by rw [hP.zero]; rfl, by omega, by rw [hP.zero], F0⟩
  case round =>
    obtain ⟨i, q, h, hi, rfl, rfl, hh, hq, F⟩ := hrel
    clear F0
    have HQ := Lib.hid hq
    have big := hP.big
    by_cases hlt : i < np
    · obtain rfl := hP.at_ (by omega)
      obtain ⟨p, c, g, o, c1, cl, gl, gp1, bs⟩ := hP.cell i hlt
      have mo := hP.mono (show i + 1 ≤ np by omega)
      have nx := hP.next i
      have c2 : wr.cell? ⟨gp, op + i, none⟩ = some (.slice p (len i) c) := (F.far.cell (p := ⟨gp, op + i, none⟩) (hP.blk (by omega))).trans c1
      have i1 : IntKind.i64.wrap ((off i : Nat) + (len i : Nat) : Int) = ((off (i + 1) : Nat) : Int) := by rw [nx, IntKind.wrap_i64]; omega
      have A := Lib.hid (add_any cu h0 m w0.heap.size gf gk gw w0 wr q h C F hh p g o (len i) c (by omega) cl gp1 (fun j hj => ((F.far.cell (p := ⟨g, o + j, none⟩) gl).trans (bs j hj)).trans (by rw [hq]))
        (Nat.lt_of_lt_of_le gl F.far.size) (by have := C.bf; omega) (by have := C.bk; omega) (by have := C.bw; omega))
      have NX := Lib.hid nx
      clear hq nx bs cl gl gp1 F c1
      go_wp2_with fail
      refine A.out.mono ?_
      rintro _ w1 ⟨⟨v, rfl⟩, q', h', hh', hq', F'⟩
      clear A
      have HQ' := Lib.hid hq'
      clear hq'
      go_wp2_with fail
      exact ⟨⟨i + 1, q', h', by omega, by go_num, rfl, hh', by rw [NX.out, HQ.out, HQ'.out], F'⟩, by simp [intOf]; omega⟩
    · obtain rfl : i = np := by omega
      have r1 := roomOf_lo (off i)
      have r2 := roomOf_hi (off i)
      have r3 := roomOf_mod (off i)
      have EN := Lib.hid (ending_any (off i) wr (by omega))
      clear hq
      go_wp2_with fail
      refine EN.out.mono ?_
      rintro _ w1 ⟨rfl, e1, b1⟩
      have F1 : Fill cu h0 m w0.heap.size gf gk gw w0 w1 q h := by
        obtain ⟨g, k1, k2⟩ := F.k
        exact ⟨F.f.below' b1, ⟨g, k1.below' b1, k2⟩, F.wd.below' b1, F.far.trans (b1.mono F.far.size)⟩
      have l1 := F.f.lt
      have l2 := F.wd.lt
      obtain ⟨g, k1, k2⟩ := F.k
      have l3 := k1.lt
      have A := Lib.hid (add_any cu h0 m w0.heap.size gf gk gw w0 w1 q h C F1 hh (some ⟨wr.heap.size, 0, none⟩) wr.heap.size 0 (roomOf (off i)) (roomOf (off i)) (by omega) (Nat.le_refl _) (fun _ => rfl) (fun j hj => by
          rw [Nat.zero_add, e1.cell, BL_get _ _ _ hj, ← hm j hj, HQ.out])
        e1.lt (by omega) (by omega) (by omega))
      clear EN F1 e1 b1 k1 k2 F
      go_wp2_with fail
      refine A.out.mono ?_
      rintro _ w2 ⟨⟨v, rfl⟩, q', h', hh', hq', F'⟩
      clear A
      have HQ' := Lib.hid hq'
      clear hq'
      go_wp2_with fail
      refine bodyPost_end (results_none rfl _ _ _) rfl ?_
      have e1 := HQ.out
      have e2 := HQ'.out
      have e3 : q' = (off i + roomOf (off i)) / 64 := by omega
      exact ⟨⟨_, rfl⟩, e3 ▸ F'.wd, F'.far⟩
end Go.Proofs.YtdmhngkedgkndaaDoor
