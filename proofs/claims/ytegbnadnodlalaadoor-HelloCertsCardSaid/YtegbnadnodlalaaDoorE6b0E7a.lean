/- The program's whole and ReadCert (printed by gen14/ej.py). The reference's Reader: Fail, Bytes, Byte, End; key (printed by gen14/em.py). -/
import Derived.Test.YtegbnadnodlalaaDoorE6d0E6a
namespace Go.Proofs.YtegbnadnodlalaaDoor
open Go.RowKit
def finS (l : List Nat) (c : Nat) : Nat := if l ≠ [] ∧ c = 0 then 4 else c
theorem took_zero (n : Nat) (l : List Nat) (c : Nat) (h : (tookS n l c).2.2 = 0) : c = 0 ∧ (tookS n l c).1.length = n := by
  unfold tookS at h ⊢
  by_cases hc : c = 0
  · subst hc
    rw [if_neg (by decide)] at h ⊢
    by_cases hl : l.length < n
    · rw [if_pos hl] at h
      cases h
    · rw [if_neg hl]
      exact ⟨rfl, by dsimp only; rw [List.length_take]; omega⟩
  · rw [if_pos hc] at h
    exact absurd h hc
theorem finS_zero {l : List Nat} {c : Nat} (h : finS l c = 0) : c = 0 := by
  unfold finS at h
  split at h
  · cases h
  · exact h
theorem endS_fin (l : List Nat) (c : Nat) : endS l c = finS l c := by
  unfold endS finS failS
  by_cases hl : l = []
  · rw [if_pos hl, if_neg (fun e => e.1 hl)]
  · rw [if_neg hl]
    by_cases hc : c = 0
    · rw [if_pos hc, if_pos ⟨hl, hc⟩]
    · rw [if_neg hc, if_neg (fun e => hc e.2)]
set_option maxHeartbeats 8000000 in
set_option maxRecDepth 100000 in
theorem whole_m (B : Nat) (p : Option Addr) (l : List Nat) (c : Nat) (t : ByteArray) (k s : List Nat) (lk : k.length = 32) (ls : s.length = 64) (W : World) (h : RM B W p l c) :
    Calls Tryd.prog 27 #[.agg #[.pointer p], .agg (cerV t k s)] W fun e w' => e = .returned (.tuple #[.agg (if finS l c = 0 then cerV t k s else cerV ⟨#[]⟩ z32 z64), .int .i64 (finS l c : Int)]) ∧ W.grownBy w' (some B) := by
  have FC := Lib.hid (fun (w : World) (h : RM B w p l c) => fin_m B p l c w h (Nat.le_of_lt h.lt))
  have CZ := info_cerV t lk ls
  have cz := cerV_size t lk ls
  have C1 := Lib.hid (cerV_one t k s)
  have CZ0 := info_cerV ⟨#[]⟩ z32_length z64_length
  have cz0 := cerV_size ⟨#[]⟩ z32_length z64_length
  have HB := Lib.hid h.lt
  have H := Lib.hid h
  have ZZ := Lib.hid (show cerV ⟨#[]⟩ z32 z64 = cerV ⟨#[]⟩ z32 z64 from rfl)
  generalize cerV t k s = CV at *
  rw [show (if l ≠ [] ∧ c = 0 then 4 else c) = finS l c from rfl] at FC
  generalize finS l c = f at *
  obtain ⟨XV, hXV⟩ : ∃ X, (if f = 0 then CV else cerV ⟨#[]⟩ z32 z64) = X := ⟨_, rfl⟩
  rw [hXV]
  replace hXV := Lib.hid hXV
  clear h lk ls
  go_enter Tryd.func27, Tryd.ntmps27
  go_upto_region 0 with fail
  rename_i aK
  refine wp_region_seq ?_
  refine wpSeq_wp rfl ?_
  unfold Oper.wp execOp
  go_simp
  refine wpSeq_wp rfl ?_
  unfold Oper.wp execOp
  go_simp
  refine wpSeq_wp rfl ?_
  unfold Oper.wp execOp
  go_simp
  refine wpSeq_yield (S := fun _ => True) (yieldsIf_assign rfl _ rfl (.int .i64 0) rfl) trivial ?_
  simp only [AP]
  refine wpSeq_nil ?_
  refine aK _ _ ?_
  clear aK
  generalize hW : World.alloc (World.alloc (World.alloc W _) _) _ = w1
  obtain ⟨Z, hZ, K0, K1, KR, b0⟩ : ∃ Z : Array Value, Z.size = 97 ∧ Blk w1 W.heap.size 57 #[.pointer p] ∧ Blk w1 (W.heap.size + 1) 37 CV ∧ Blk w1 (W.heap.size + 2) 37 Z ∧ Below W.heap.size W w1 := by
    rw [← hW]
    exact ⟨_, rfl, three_alloc W _ _ _ _ _ _⟩
  clear hW
  have c0 : w1.cell? ⟨W.heap.size, 0, none⟩ = some (.pointer p) := K0.cell 0
  go_upto_region 1 with fail
  rename_i aK
  refine wp_region_seq ?_
  refine wpSeq_yield (S := fun _ => True) (v := .pointer (some ⟨W.heap.size, 0, none⟩)) (Or.inl ⟨by rfl, fun w' hw' => by go_simp⟩) trivial ?_
  simp only [AP]
  refine wpSeq_yield (S := fun w' => w' = w1) (v := .pointer p) (Or.inl ⟨by rfl, fun w' hw' => by (rw [hw']; go_simp)⟩) rfl ?_
  simp only [AP]
  refine wpSeq_wp rfl ?_
  unfold Oper.wp execOp
  go_simp
  refine (FC.out w1 (H.out.below b0)).mono ?_
  rintro _ w2 ⟨rfl, _, G2⟩
  have TW := gb_tr (gb_below b0 (some B)) G2
  replace K1 : Blk w2 (W.heap.size + 1) 37 CV := (G2.block _ K1.lt (fun e => by have := Option.some.inj e; have := HB.out; omega)).trans K1
  replace KR : Blk w2 (W.heap.size + 2) 37 Z := (G2.block _ KR.lt (fun e => by have := Option.some.inj e; have := HB.out; omega)).trans KR
  clear FC G2 b0 K0 c0
  go_simp
  refine wpSeq_yield (S := fun _ => True) (yieldsIf_assign rfl _ rfl (.int .i64 (f : Int)) rfl) trivial ?_
  simp only [AP]
  refine wpSeq_nil ?_
  refine (by assumption : ∀ (a : Act) (w : World), _ → _) _ _ ?_
  by_cases f0 : f = 0
  · subst f0
    go_upto_region 2 with fail
    rename_i aK
    refine wp_region_seq ?_
    refine wpSeq_yield (S := fun _ => True) (yieldsIf_move rfl _ rfl (.int .i64 0) rfl) trivial ?_
    simp only [AP]
    refine wpSeq_yield (S := fun _ => True) (v := .bool false) (Or.inl ⟨by rfl, fun w' hw' => by (go_simp; try omega)⟩) trivial ?_
    simp only [AP]
    refine wpSeq_nil ?_
    refine (by assumption : ∀ (a : Act) (w : World), _ → _) _ _ ?_
    go_upto_region 5 with fail
    rename_i aK
    refine wp_region_seq ?_
    refine wpSeq_yield (S := fun w' => w' = w2) (show YieldsIf _ _ _ _ (.agg CV) _ from yieldsIf_row_wanted (S := fun w' => w' = w2) rfl 37 _ rfl (W.heap.size + 1) rfl 37 _ _ (fun _ h => h ▸ K1) Tryd.underlying37 rfl CZ) rfl ?_
    simp only [AP]
    refine wpSeq_store_row rfl 37 _ _ rfl (W.heap.size + 2) CV rfl rfl _ _ KR CZ (by rw [hZ, cz]) C1.out ?_
    simp only [Act.put]
    refine wpSeq_yield (S := fun _ => True) (yieldsIf_assign rfl _ rfl (.int .i64 0) rfl) trivial ?_
    simp only [AP]
    refine wpSeq_nil ?_
    refine (by assumption : ∀ (a : Act) (w : World), _ → _) _ _ ?_
    have G5 : W.grownBy (w2.setRow (W.heap.size + 2) CV) (some B) := ⟨TW.os, TW.tape, TW.output, by rw [setRow_size]; exact TW.size, fun k hk hne => (setRow_other w2 _ k _ (by omega)).trans (TW.block k hk hne)⟩
    go_wp2
    refine bodyPost_ret (results_cell_tmp rfl _ _ _ 37 _ (0, 0) _ _ rfl (Blk.row KR _) Tryd.underlying37 rfl CZ rfl) rfl ?_
    have eX := hXV.out
    simp only [if_true] at eX
    exact ⟨by rw [← eX]; rfl, G5⟩
  · have f1 : ¬ (f : Int) = 0 := by omega
    replace f0 := Lib.hid f0
    clear K1 CZ cz C1
    go_upto_region 2 with fail
    rename_i aK
    refine wp_region_seq ?_
    refine wpSeq_yield (S := fun _ => True) (yieldsIf_move rfl _ rfl (.int .i64 (f : Int)) rfl) trivial ?_
    simp only [AP]
    refine wpSeq_yield (S := fun _ => True) (v := .bool true) (Or.inl ⟨by rfl, fun w' hw' => by (go_simp; try omega)⟩) trivial ?_
    simp only [AP]
    refine wpSeq_nil ?_
    refine (by assumption : ∀ (a : Act) (w : World), _ → _) _ _ ?_
    go_upto_region 3 with fail
    rename_i aK
    refine wp_region_seq ?_
    refine wpSeq_wp rfl ?_
    unfold Oper.wp execOp
    go_simp
    generalize hW : World.alloc w2 _ = w3
    obtain ⟨KK, b3⟩ : Blk w3 w2.heap.size 37 (cerV ⟨#[]⟩ z32 z64) ∧ Below w2.heap.size w2 w3 := by
      rw [← hW]
      exact ⟨Blk.new _ _ _, (Below.refl _ _).alloc (Nat.le_refl _) _⟩
    clear hW
    have NG := Lib.hid (show W.heap.size + 2 < w2.heap.size from KR.lt)
    replace KR := KR.below' b3
    replace TW := gb_tr TW (gb_below b3 (some B))
    clear b3
    obtain ⟨g3, hg3⟩ : ∃ g, w2.heap.size = g := ⟨_, rfl⟩
    rw [hg3] at KK NG ⊢
    clear hg3
    refine wpSeq_nil ?_
    refine (by assumption : ∀ (a : Act) (w : World), _ → _) _ _ ?_
    go_upto_region 4 with fail
    rename_i aK
    refine wp_region_seq ?_
    refine wpSeq_yield (S := fun w' => w' = w3) (show YieldsIf _ _ _ _ (.agg (cerV ⟨#[]⟩ z32 z64)) _ from yieldsIf_row_wanted (S := fun w' => w' = w3) rfl 37 _ rfl g3 rfl 37 _ _ (fun _ h => h ▸ KK) Tryd.underlying37 rfl CZ0) rfl ?_
    simp only [AP]
    refine wpSeq_yield (S := fun _ => True) (yieldsIf_move rfl _ rfl (.int .i64 (f : Int)) rfl) trivial ?_
    simp only [AP]
    refine wpSeq_store_row rfl 37 _ _ rfl (W.heap.size + 2) (cerV ⟨#[]⟩ z32 z64) rfl rfl _ _ KR CZ0 (by rw [hZ, cz0]) (cerV_one _ _ _) ?_
    simp only [Act.put]
    refine wpSeq_yield (S := fun _ => True) (yieldsIf_assign rfl _ rfl (.int .i64 (f : Int)) rfl) trivial ?_
    simp only [AP]
    refine wpSeq_nil ?_
    refine (by assumption : ∀ (a : Act) (w : World), _ → _) _ _ ?_
    have G5 : W.grownBy (w3.setRow (W.heap.size + 2) (cerV ⟨#[]⟩ z32 z64)) (some B) := ⟨TW.os, TW.tape, TW.output, by rw [setRow_size]; exact TW.size, fun k hk hne => (setRow_other w3 _ k _ (by omega)).trans (TW.block k hk hne)⟩
    go_wp2
    refine bodyPost_ret (results_cell_tmp rfl _ _ _ 37 _ (0, 0) _ _ rfl (Blk.row KR _) Tryd.underlying37 rfl CZ0 rfl) rfl ?_
    exact ⟨by rw [← hXV.out, if_neg f0.out]; rfl, G5⟩
end Go.Proofs.YtegbnadnodlalaaDoor
namespace Go.Proofs.YtegbnadnodlalaaDoor
open Go.RowKit
/-- Where bytes lie, if there are any: below B0. -/
def Lo (B0 : Nat) (l : List Nat) (p : Option Addr) : Prop := l = [] ∨ ∀ a, p = some a → a.block < B0
theorem Lo.head {B0 : Nat} {l : List Nat} {p : Option Addr} (h : Lo B0 l p) (n : Nat) : Lo B0 (l.take n) p := h.imp (fun e => by rw [e]; simp) id
theorem Lo.tail {B0 : Nat} {l : List Nat} {p : Option Addr} (h : Lo B0 l p) (c n : Nat) : Lo B0 (l.drop n) (tailP p c n) := h.imp (fun e => by rw [e]; exact List.drop_nil) (fun h => tailP_block h)
theorem SB.keepL {w w' : World} {p : Option Addr} {n c B0 : Nat} {l : List Nat} (h : SB w (.slice p n c) l) (lo : Lo B0 l p) (hb : ∀ k, k < w.heap.size → k < B0 → w'.heap[k]? = w.heap[k]?) : SB w' (.slice p n c) l := by
  obtain ⟨q, d, e, hc, h0 | ⟨gb, o, rfl, A⟩⟩ := h
  · exact ⟨q, d, e, hc, Or.inl h0⟩
  · simp only [Value.slice.injEq] at e
    obtain ⟨rfl, rfl, rfl⟩ := e
    rcases lo with lo | lo
    · exact ⟨_, _, rfl, hc, Or.inl lo⟩
    · have nb := lo _ rfl
      dsimp only at nb
      exact ⟨_, _, rfl, hc, Or.inr ⟨gb, o, rfl, A.of_block (hb gb A.blk nb)⟩⟩
theorem SB.farL {w : World} {g B0 : Nat} {p : Option Addr} {n c : Nat} {l : List Nat} (h : SB w (.slice p n c) l) (lo : Lo B0 l p) (hg : B0 ≤ g) (i : Nat) (v : Value) : SB (w.setCell ⟨g, i, none⟩ v) (.slice p n c) l :=
  h.keepL lo fun k _ h0 => heap_setCell_other w _ k v (by dsimp only; omega)
theorem SB.lo {w : World} {p : Option Addr} {n c : Nat} {l : List Nat} (h : SB w (.slice p n c) l) : Lo w.heap.size l p := by
  obtain ⟨q, d, e, hc, h0 | ⟨gb, o, rfl, A⟩⟩ := h
  · exact Or.inl h0
  · simp only [Value.slice.injEq] at e
    obtain ⟨rfl, _, _⟩ := e
    exact Or.inr fun a ha => by cases ha; exact A.blk
/-- The reference's Reader in block B: l is left, c the fault; its bytes lie below B0. -/
structure RX (B0 B : Nat) (w : World) (p : Option Addr) (l : List Nat) (c : Nat) : Prop where
  ex : ∃ pb cb, p = some ⟨B, 0, none⟩ ∧ Blk w B 67 #[.slice pb l.length cb, .int .i64 ((c : Nat) : Int)] ∧ SB w (.slice pb l.length cb) l ∧ Lo B0 l pb
  lo : B0 ≤ B
  small : l.length ≤ 1000000
theorem RX.lt {B0 B : Nat} {w : World} {p : Option Addr} {l : List Nat} {c : Nat} (h : RX B0 B w p l c) : B < w.heap.size := by
  obtain ⟨⟨pb, cb, e, K, S, ne⟩, lo, sm⟩ := h
  exact K.lt
theorem RX.below {B0 B : Nat} {w w' : World} {p : Option Addr} {l : List Nat} {c : Nat} (h : RX B0 B w p l c) (b : Below w.heap.size w w') : RX B0 B w' p l c := by
  obtain ⟨⟨pb, cb, e, K, S, ne⟩, lo, sm⟩ := h
  exact ⟨⟨pb, cb, e, K.below' b, S.below b, ne⟩, lo, sm⟩
theorem RX.other {B0 B g : Nat} {w w' : World} {p : Option Addr} {l : List Nat} {c : Nat} (h : RX B0 B w p l c) (G : w.grownBy w' (some g)) (hg : B0 ≤ g) (hne : B ≠ g) : RX B0 B w' p l c := by
  obtain ⟨⟨pb, cb, e, K, S, ne⟩, lo, sm⟩ := h
  exact ⟨⟨pb, cb, e, (G.block B K.lt (fun e => hne (Option.some.inj e))).trans K, S.keepL ne (fun k hk h0 => G.block k hk (fun e => by have := Option.some.inj e; omega)), ne⟩, lo, sm⟩
theorem RX.fault {B0 B : Nat} {w : World} {p : Option Addr} {l : List Nat} {c : Nat} (h : RX B0 B w p l c) (d : Nat) : RX B0 B (w.setCell ⟨B, 1, none⟩ (.int .i64 ((d : Nat) : Int))) p l d := by
  obtain ⟨⟨pb, cb, e, K, S, ne⟩, lo, sm⟩ := h
  exact ⟨⟨pb, cb, e, K.set 1 _, S.farL ne lo 1 _, ne⟩, lo, sm⟩
theorem RX.cell {B0 B : Nat} {w : World} {p : Option Addr} {l : List Nat} {c : Nat} (h : RX B0 B w p l c) : p = some ⟨B, 0, none⟩ ∧ w.cell? ⟨B, 1, none⟩ = some (.int .i64 (c : Int)) ∧ w.frozen? ⟨B, 1, none⟩ = false := by
  obtain ⟨⟨pb, cb, e, K, S, ne⟩, lo, sm⟩ := h
  exact ⟨e, K.cell 1, K.frozen 1⟩
set_option maxHeartbeats 8000000 in
set_option maxRecDepth 100000 in
theorem rfail_m (B0 B : Nat) (p : Option Addr) (l : List Nat) (c d : Nat) (W : World) (h : RX B0 B W p l c) : Calls Tryd.prog 29 #[.pointer p, .int .i64 (d : Int)] W fun e w' => (∃ v, e = .returned v) ∧ RX B0 B w' p l (if c = 0 then d else c) ∧ W.grownBy w' (some B) := by
  have h0 := Lib.hid h
  obtain ⟨rfl, c1, f1⟩ := h.cell
  clear h
  by_cases hc : c = 0
  · rw [if_pos hc]
    subst hc
    go_enter Tryd.func29, Tryd.ntmps29
    go_wp2
    refine bodyPost_end (results_none rfl _ _ _) rfl ?_
    exact ⟨⟨_, rfl⟩, h0.out.fault d, gb_set rfl W 1 _⟩
  · rw [if_neg hc]
    have hc' : ¬ (c : Int) = 0 := by omega
    go_enter Tryd.func29, Tryd.ntmps29
    go_wp2
    refine bodyPost_end (results_none rfl _ _ _) rfl ?_
    exact ⟨⟨_, rfl⟩, h0.out, World.grownBy.refl _ _⟩
set_option maxHeartbeats 8000000 in
set_option maxRecDepth 100000 in
theorem rbytes_m (B0 B : Nat) (p : Option Addr) (l : List Nat) (n c : Nat) (W : World) (h : RX B0 B W p l c) : Calls Tryd.prog 30 #[.pointer p, .int .u64 (n : Int)] W fun e w' => (∃ v, e = .returned v ∧ SB w' v (tookS n l c).1 ∧ ∀ q m k, v = .slice q m k → Lo B0 (tookS n l c).1 q) ∧ RX B0 B w' p (tookS n l c).2.1 (tookS n l c).2.2 ∧ W.grownBy w' (some B) := by
  unfold tookS
  have h0 := Lib.hid h
  obtain ⟨rfl, c1, f1⟩ := h.cell
  by_cases hc : c = 0
  · subst hc
    rw [if_neg (by decide)]
    obtain ⟨⟨pb, cb, _, K, S, ne⟩, lo, sm⟩ := h
    have cc0 : W.cell? ⟨B, 0, none⟩ = some (.slice pb l.length cb) := K.cell 0
    by_cases hl : l.length < n
    · rw [if_pos hl]
      have g1 : (l.length : Int) < (n : Int) := by omega
      have wl : IntKind.u64.wrap (l.length : Int) = (l.length : Int) := by rw [IntKind.wrap_u64]; omega
      clear K S ne lo sm hl
      generalize l.length = ln at *
      go_enter Tryd.func30, Tryd.ntmps30
      go_wp2
      go_ret
      exact ⟨⟨_, rfl, SB.nil _ _ _, fun q m k e => Or.inl rfl⟩, h0.out.fault 3, gb_set rfl W 1 _⟩
    · rw [if_neg hl]
      have g1 : ¬ (l.length : Int) < (n : Int) := by omega
      have wl : IntKind.u64.wrap (l.length : Int) = (l.length : Int) := by rw [IntKind.wrap_u64]; omega
      have lc := S.len.2
      have f0 := K.frozen 0
      have hn : n ≤ l.length := by omega
      have dl : (l.drop n).length = l.length - n := List.length_drop
      have R3 : RX B0 B (W.setCell ⟨B, 0, none⟩ (.slice (tailP pb cb n) (l.length - n) (cb - n))) (some ⟨B, 0, none⟩) (l.drop n) 0 := by
        refine ⟨⟨tailP pb cb n, cb - n, rfl, ?_, ?_, ne.tail cb n⟩, lo, by omega⟩
        · rw [dl]
          exact K.set 0 _
        · rw [dl]
          exact (S.tail n hn).farL (ne.tail cb n) lo 0 _
      have O3 : SB (W.setCell ⟨B, 0, none⟩ (.slice (tailP pb cb n) (l.length - n) (cb - n))) (.slice pb n cb) (l.take n) := (S.head n hn).farL (ne.head n) lo 0 _
      have A := Lib.hid (And.intro R3 (And.intro O3 ne))
      have G := Lib.hid (gb_set (B := B) rfl W 0 (.slice (tailP pb cb n) (l.length - n) (cb - n)))
      have HN := Lib.hid (And.intro hn lc)
      clear K S ne lo sm hl R3 O3 dl lc hn h0
      go_enter Tryd.func30, Tryd.ntmps30
      go_upto_region 6 with fail
      rename_i aK
      refine wp_region_seq ?_
      refine wpSeq_yield (S := fun _ => True) (yieldsIf_move rfl _ rfl (.pointer (some ⟨B, 0, none⟩)) rfl) trivial ?_
      simp only [AP]
      refine wpSeq_yield (S := fun _ => True) (v := .pointer (some ⟨B, 0, none⟩)) (Or.inl ⟨by rfl, fun w' hw' => by go_simp⟩) trivial ?_
      simp only [AP]
      refine wpSeq_yield (S := fun _ => True) (v := .pointer (some ⟨B, 0, none⟩)) (Or.inl ⟨by rfl, fun w' hw' => by go_simp⟩) trivial ?_
      simp only [AP]
      refine wpSeq_yield (S := fun w' => w' = W) (v := .slice pb l.length cb) (Or.inl ⟨by rfl, fun w' hw' => by (rw [hw']; go_simp)⟩) rfl ?_
      simp only [AP]
      refine wpSeq_yield (S := fun _ => True) (yieldsIf_move rfl _ rfl (.int .u64 (n : Int)) rfl) trivial ?_
      simp only [AP]
      refine wpSeq_yield (S := fun _ => True) (yieldsIf_headK rfl _ _ .u64 rfl pb l.length cb n rfl rfl (by have := HN.out; omega)) trivial ?_
      simp only [AP]
      refine wpSeq_yield (S := fun _ => True) (yieldsIf_assign rfl _ rfl (.slice pb n cb) rfl) trivial ?_
      simp only [AP]
      refine wpSeq_nil ?_
      refine (by assumption : ∀ (a : Act) (w : World), _ → _) _ _ ?_
      go_upto_region 7 with fail
      rename_i aK
      refine wp_region_seq ?_
      refine wpSeq_yield (S := fun _ => True) (yieldsIf_move rfl _ rfl (.pointer (some ⟨B, 0, none⟩)) rfl) trivial ?_
      simp only [AP]
      refine wpSeq_yield (S := fun _ => True) (yieldsIf_move rfl _ rfl (.pointer (some ⟨B, 0, none⟩)) rfl) trivial ?_
      simp only [AP]
      refine wpSeq_yield (S := fun _ => True) (v := .pointer (some ⟨B, 0, none⟩)) (Or.inl ⟨by rfl, fun w' hw' => by go_simp⟩) trivial ?_
      simp only [AP]
      refine wpSeq_yield (S := fun _ => True) (v := .pointer (some ⟨B, 0, none⟩)) (Or.inl ⟨by rfl, fun w' hw' => by go_simp⟩) trivial ?_
      simp only [AP]
      refine wpSeq_yield (S := fun w' => w' = W) (v := .slice pb l.length cb) (Or.inl ⟨by rfl, fun w' hw' => by (rw [hw']; go_simp)⟩) rfl ?_
      simp only [AP]
      refine wpSeq_yield (S := fun _ => True) (yieldsIf_move rfl _ rfl (.int .u64 (n : Int)) rfl) trivial ?_
      simp only [AP]
      refine wpSeq_yield (S := fun _ => True) (yieldsIf_tailK rfl _ _ .u64 rfl pb l.length cb n rfl rfl HN.out.1 HN.out.2) trivial ?_
      simp only [AP]
      refine wpSeq_yield (S := fun _ => True) (v := .pointer (some ⟨B, 0, none⟩)) (Or.inl ⟨by rfl, fun w' hw' => by go_simp⟩) trivial ?_
      simp only [AP]
      refine wpSeq_yield (S := fun _ => True) (v := .pointer (some ⟨B, 0, none⟩)) (Or.inl ⟨by rfl, fun w' hw' => by go_simp⟩) trivial ?_
      simp only [AP]
      refine wpSeq_wp rfl ?_
      unfold Oper.wp execOp
      go_simp
      refine wpSeq_nil ?_
      refine (by assumption : ∀ (a : Act) (w : World), _ → _) _ _ ?_
      clear cc0 f0
      go_wp2
      go_ret
      exact ⟨⟨_, rfl, A.out.2.1, fun q m k e => by cases e; exact A.out.2.2.head n⟩, A.out.1, G.out⟩
  · rw [if_pos hc]
    have hc' : ¬ (c : Int) = 0 := by omega
    clear h
    go_enter Tryd.func30, Tryd.ntmps30
    go_wp2
    go_ret
    exact ⟨⟨_, rfl, SB.nil _ _ _, fun q m k e => Or.inl rfl⟩, h0.out, World.grownBy.refl _ _⟩
set_option maxHeartbeats 8000000 in
set_option maxRecDepth 100000 in
theorem rbyte_m (B0 B : Nat) (p : Option Addr) (l : List Nat) (c : Nat) (W : World) (h : RX B0 B W p l c) : Calls Tryd.prog 28 #[.pointer p] W fun e w' => e = .returned (.int .u8 (((tookS 1 l c).1.getD 0 0 : Nat) : Int)) ∧ RX B0 B w' p (tookS 1 l c).2.1 (tookS 1 l c).2.2 ∧ W.grownBy w' (some B) := by
  have T := Lib.hid (rbytes_m B0 B p l 1 c W h)
  obtain ⟨y, hy⟩ : ∃ y, (tookS 1 l c).1.getD 0 0 = y := ⟨_, rfl⟩
  rw [hy]
  have HY := Lib.hid hy
  clear h hy
  go_enter Tryd.func28, Tryd.ntmps28
  go_wp2_with fail
  refine T.out.mono ?_
  rintro _ w1 ⟨⟨v1, rfl, s1, _⟩, h1, b1⟩
  have h1 := Lib.hid h1
  clear T
  generalize (tookS 1 l c).1 = t at *
  obtain ⟨q, d, hv, hd, h0 | ⟨g, o, rfl, A⟩⟩ := s1
  · subst hv
    subst h0
    go_wp2
    go_ret
    exact ⟨by rw [← HY.out]; rfl, h1.out, b1⟩
  · cases t with
    | nil =>
      subst hv
      go_wp2
      go_ret
      exact ⟨by rw [← HY.out]; rfl, h1.out, b1⟩
    | cons x r =>
      subst hv
      have cx := A.cell 0 (by simp)
      rw [Nat.add_zero] at cx
      replace cx : w1.cell? ⟨g, o, none⟩ = some (.int .u8 (x : Int)) := cx
      obtain ⟨m, hm⟩ : ∃ m, (x :: r).length = m := ⟨_, rfl⟩
      have m0 : ¬ (m : Int) = 0 := by simp only [List.length_cons] at hm; omega
      have m1 : (0 : Int) < (m : Int) := by omega
      have m2 : ¬ m = 0 := by omega
      have m3 : 0 < m := by omega
      rw [hm]
      clear A hd hm
      go_wp2
      go_ret
      exact ⟨by rw [← HY.out]; rfl, h1.out, b1⟩
set_option maxHeartbeats 8000000 in
set_option maxRecDepth 100000 in
theorem rend_m (B0 B : Nat) (p : Option Addr) (l : List Nat) (c : Nat) (W : World) (h : RX B0 B W p l c) : Calls Tryd.prog 32 #[.pointer p] W fun e w' => e = .returned (.int .i64 (finS l c : Int)) ∧ W.grownBy w' (some B) := by
  have FC := Lib.hid (rfail_m B0 B p l c 4 W h)
  unfold finS
  obtain ⟨rfl, c1, f1⟩ := h.cell
  obtain ⟨⟨pb, cb, _, K, S, ne⟩, lo, sm⟩ := h
  have cc0 : W.cell? ⟨B, 0, none⟩ = some (.slice pb l.length cb) := K.cell 0
  clear K S ne lo sm
  by_cases h0 : l = []
  · rw [if_neg (fun e => e.1 h0)]
    subst h0
    have cc1 : W.cell? ⟨B, 0, none⟩ = some (.slice pb 0 cb) := cc0
    clear FC cc0
    go_enter Tryd.func32, Tryd.ntmps32
    go_wp2
    go_ret
    exact ⟨rfl, World.grownBy.refl _ _⟩
  · have e : (if l ≠ [] ∧ c = 0 then 4 else c) = (if c = 0 then 4 else c) := by
      by_cases hc : c = 0
      · rw [if_pos ⟨h0, hc⟩, if_pos hc]
      · rw [if_neg (fun e => hc e.2), if_neg hc]
    rw [e]
    have lp : (0 : Int) < (l.length : Int) := by
      have := List.length_pos_iff.2 h0
      omega
    generalize (if c = 0 then 4 else c) = d at *
    generalize l.length = ln at *
    clear e h0
    go_enter Tryd.func32, Tryd.ntmps32
    go_wp2_with fail
    refine FC.out.mono ?_
    rintro _ w1 ⟨⟨v, rfl⟩, h1, b1⟩
    obtain ⟨_, c2, f2⟩ := h1.cell
    clear FC h1 c1 f1 cc0
    go_wp2
    go_ret
    exact ⟨rfl, b1⟩
end Go.Proofs.YtegbnadnodlalaaDoor
