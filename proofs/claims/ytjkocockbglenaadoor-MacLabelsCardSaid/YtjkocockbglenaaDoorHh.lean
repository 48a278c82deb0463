/- sha2: all parts put into blocks, and the ending behind them. -/
import Derived.Test.YtjkocockbglenaaDoorHg
namespace Go.Proofs.YtjkocockbglenaaDoor
open Go.RowKit

/-- A slice of parts: their lengths, where each begins, the bytes m. -/
structure Parts (w : World) (pp : Option Addr) (gp op np : Nat) (len off m : Nat → Nat) : Prop where
  at_ : 0 < np → pp = some ⟨gp, op, none⟩
  cell : ∀ i, i < np → ∃ p : Option Addr, ∃ c g o : Nat, w.cell? ⟨gp, op + i, none⟩ = some (.slice p (len i) c) ∧ len i ≤ c ∧ g < w.heap.size ∧ (0 < len i → p = some ⟨g, o, none⟩) ∧ ∀ j, j < len i → w.cell? ⟨g, o + j, none⟩ = some (.int .u8 ((m (off i + j) : Nat) : Int))
  blk : 0 < np → gp < w.heap.size
  zero : off 0 = 0
  next : ∀ i, off (i + 1) = off i + len i
  big : off np < 2305843009213693952
theorem Parts.mono {w : World} {pp : Option Addr} {gp op np : Nat} {len off m : Nat → Nat} (h : Parts w pp gp op np len off m) {i j : Nat} (hij : i ≤ j) : off i ≤ off j := by
  induction j with
  | zero => obtain rfl : i = 0 := by omega
            exact Nat.le_refl _
  | succ j ih =>
    rcases Nat.lt_or_ge i (j + 1) with h1 | h1
    · have := ih (by omega)
      rw [h.next]
      omega
    · obtain rfl : i = j + 1 := by omega
      exact Nat.le_refl _

theorem store_new {P : Program} (W : World) (cs : Array Value) (t : TypeId) (i : Nat) (v : Value) (h1 : v.oneCell' = true) (hi : i < cs.size) :
    (store ⟨W.heap.size, i, none⟩ v).run P (W.alloc (.cells cs t)) = .ok () (W.alloc (.cells (cs.setIfInBounds i v) t)) := by
  have hb := Blk.new W t cs
  rw [run_store _ _ _ _ _ h1, hb.cell, Array.getElem?_eq_getElem hi]
  simp only [hb.frozen, World.setCell_alloc_new]
  rfl

set_option maxHeartbeats 2000000 in
set_option maxRecDepth 100000 in
theorem blocks_any (cu h0 m len off : Nat → Nat) (gw : Nat) (w0 w : World) (pp : Option Addr) (gp op np cp : Nat) (T : Tab w0 cu) (far : Below w0.heap.size w0 w) (hgw : w0.heap.size ≤ gw) (hw : Blk w gw 50 (Iv .u32 (W8 h0)))
    (ml : ∀ i, m i < 256) (hl : ∀ i, i < 8 → h0 i < 4294967296) (hP : Parts w0 pp gp op np len off m) (hnp : np < 4611686018427387904) (hm : ∀ i, i < roomOf (off np) → m (off np + i) = endK (off np) 8 i) :
    Calls Tryd.prog 23 #[.int .i64 64, .slice pp np cp, EachV gw] w fun e w' => (∃ v, e = .returned v) ∧ Blk w' gw 50 (Iv .u32 (W8 (hashK cu h0 m ((off np + roomOf (off np)) / 64)))) ∧ Below w0.heap.size w0 w' := by
  have hmk := make8 64 (by omega)
  rw [show ((64 : Nat) : Int) = 64 from rfl] at hmk
  unfold EachV
  have hst : (store ⟨w.heap.size + 1, 2, none⟩ (.func (.func 24) #[] #[.pointer (some ⟨gw, 0, none⟩)])).run Tryd.prog ((w.alloc (.cells (Iv .u8 (BL 64 fun _ => 0)) 5)).alloc (.cells #[.slice (some ⟨w.heap.size, 0, none⟩) 64 64, .int .i64 0, .nilFunc] 62)) = .ok () ((w.alloc (.cells (Iv .u8 (BL 64 fun _ => 0)) 5)).alloc (.cells #[.slice (some ⟨w.heap.size, 0, none⟩) 64 64, .int .i64 0, .func (.func 24) #[] #[.pointer (some ⟨gw, 0, none⟩)]] 62)) := by
    have h := store_new (P := Tryd.prog) (w.alloc (.cells (Iv .u8 (BL 64 fun _ => 0)) 5)) #[.slice (some ⟨w.heap.size, 0, none⟩) 64 64, .int .i64 0, .nilFunc] 62 2 (.func (.func 24) #[] #[.pointer (some ⟨gw, 0, none⟩)]) rfl (by simp)
    rw [size_alloc] at h
    exact h
  go_enter Tryd.func23, Tryd.ntmps23
  go_wp2_with fail
  have wl := hw.lt
  have wB := far.size
  have C : FillC cu h0 m w0.heap.size (w.heap.size + 1) w.heap.size gw w0 := ⟨T, rfl, by omega, wB, hgw, by omega, by omega, by omega, ml, hl⟩
  generalize hV : World.alloc _ (.cells #[.slice (some ⟨w.heap.size, 0, none⟩) 64 64, .int .i64 0, .func (.func 24) #[] #[.pointer (some ⟨gw, 0, none⟩)]] 62) = V
  have F0 : Fill cu h0 m w0.heap.size (w.heap.size + 1) w.heap.size gw w0 V 0 0 := by
    subst hV
    refine ⟨Blk.new' (by simp) _ _, ⟨fun _ => 0, (Blk.new _ _ _).alloc _, fun i hi => absurd hi (by omega)⟩, (hw.alloc _).alloc _, (far.alloc wB _).alloc (by simp; omega) _⟩
  clear hV hst hmk hw far
  generalize w.heap.size + 1 = gf at C F0 ⊢
  generalize w.heap.size = gk at C F0 ⊢
  go_loopw [7, 9, 16] (fun u _ v wr => ∃ i q h : Nat, i ≤ np ∧ v = .int .i64 i ∧ u = .int .i64 (off i : Nat) ∧ h < 64 ∧ off i = 64 * q + h ∧ Fill cu h0 m w0.heap.size gf gk gw w0 wr q h) (fun _ _ v _ => np - (intOf v).toNat)
  case atStart => exact ⟨0, 0, 0, by omega, rfl, by rw [hP.zero]; rfl, by omega, by rw [hP.zero], F0⟩
  case round =>
    obtain ⟨i, q, h, hi, rfl, rfl, hh, hq, F⟩ := hrel
    clear F0
    have HQ := Lib.hid hq
    have big := hP.big
    by_cases hlt : i < np
    · obtain rfl := hP.at_ (by omega)
      obtain ⟨p, c, g, o, c1, cl, gl, gp1, bs⟩ := hP.cell i hlt
      have mo := hP.mono (show i + 1 ≤ np by omega)
      have nx := hP.next i
      have c2 : wr.cell? ⟨gp, op + i, none⟩ = some (.slice p (len i) c) := (F.far.cell (p := ⟨gp, op + i, none⟩) (hP.blk (by omega))).trans c1
      have i1 : IntKind.i64.wrap ((off i : Nat) + (len i : Nat) : Int) = ((off (i + 1) : Nat) : Int) := by rw [nx, IntKind.wrap_i64]; omega
      have A := Lib.hid (add_any cu h0 m w0.heap.size gf gk gw w0 wr q h C F hh p g o (len i) c (by omega) cl gp1 (fun j hj => ((F.far.cell (p := ⟨g, o + j, none⟩) gl).trans (bs j hj)).trans (by rw [hq]))
        (Nat.lt_of_lt_of_le gl F.far.size) (by have := C.bf; omega) (by have := C.bk; omega) (by have := C.bw; omega))
      have NX := Lib.hid nx
      clear hq nx bs cl gl gp1 F c1
      go_wp2_with fail
      refine A.out.mono ?_
      rintro _ w1 ⟨⟨v, rfl⟩, q', h', hh', hq', F'⟩
      clear A
      have HQ' := Lib.hid hq'
      clear hq'
      go_wp2_with fail
      exact ⟨⟨i + 1, q', h', by omega, by go_num, rfl, hh', by rw [NX.out, HQ.out, HQ'.out], F'⟩, by simp [intOf]; omega⟩
    · obtain rfl : i = np := by omega
      have r1 := roomOf_lo (off i)
      have r2 := roomOf_hi (off i)
      have r3 := roomOf_mod (off i)
      have EN := Lib.hid (ending_any (off i) wr (by omega))
      clear hq
      go_wp2_with fail
      refine EN.out.mono ?_
      rintro _ w1 ⟨rfl, e1, b1⟩
      have F1 : Fill cu h0 m w0.heap.size gf gk gw w0 w1 q h := by
        obtain ⟨g, k1, k2⟩ := F.k
        exact ⟨F.f.below' b1, ⟨g, k1.below' b1, k2⟩, F.wd.below' b1, F.far.trans (b1.mono F.far.size)⟩
      have l1 := F.f.lt
      have l2 := F.wd.lt
      obtain ⟨g, k1, k2⟩ := F.k
      have l3 := k1.lt
      have A := Lib.hid (add_any cu h0 m w0.heap.size gf gk gw w0 w1 q h C F1 hh (some ⟨wr.heap.size, 0, none⟩) wr.heap.size 0 (roomOf (off i)) (roomOf (off i)) (by omega) (Nat.le_refl _) (fun _ => rfl) (fun j hj => by
          rw [Nat.zero_add, e1.cell, BL_get _ _ _ hj, ← hm j hj, HQ.out])
        e1.lt (by omega) (by omega) (by omega))
      clear EN F1 e1 b1 k1 k2 F
      go_wp2_with fail
      refine A.out.mono ?_
      rintro _ w2 ⟨⟨v, rfl⟩, q', h', hh', hq', F'⟩
      clear A
      have HQ' := Lib.hid hq'
      clear hq'
      go_wp2_with fail
      refine bodyPost_end (results_none rfl _ _ _) rfl ?_
      have e1 := HQ.out
      have e2 := HQ'.out
      have e3 : q' = (off i + roomOf (off i)) / 64 := by omega
      exact ⟨⟨_, rfl⟩, e3 ▸ F'.wd, F'.far⟩
end Go.Proofs.YtjkocockbglenaaDoor
