/- The program's reader of heads: what it keeps; names and sizes (printed by gen12/pe.py). -/
import Derived.Test.YtfhiflakglhneaaPb
import Derived.Test.YtfhiflakglhneaaRg
namespace Go.Proofs.Ytfhiflakglhneaa
open Go.RowKit

theorem blk_gb {w w' : World} {g B : Nat} {t : TypeId} {cs : Array Value} (k : w.grownBy w' (some B)) (K : Blk w g t cs) (ne : g ≠ B) : Blk w' g t cs := (k.block g K.lt (fun e => ne (Option.some.inj e))).trans K
theorem OwL.gb {B g : Nat} {w w' : World} {v : Value} {l : List Nat} (h : OwL B w v l) (k : w.grownBy w' (some g)) (hg : g < B) : OwL B w' v l :=
  h.of_block fun j e => k.block j (h.lt j e).2 (fun x => by
    have := (h.lt j e).1
    have := Option.some.inj x
    omega)
theorem RM.lt {B : Nat} {w : World} {p : Option Addr} {l : List Nat} {c : Nat} (h : RM B w p l c) : B < w.heap.size := by
  obtain ⟨g, pb, cb, _, hg, KB, _⟩ := h
  have := KB.lt
  omega
theorem rm_bytes {B : Nat} {w : World} {p : Option Addr} {l : List Nat} {c : Nat} (h : RM B w p l c) : ∀ x ∈ l, x < 256 := by
  obtain ⟨g, pb, cb, rfl, hg, K, S, ne, bb, ll⟩ := h
  exact bb
theorem RM.gb {B : Nat} {w w' : World} {p : Option Addr} {l : List Nat} {c : Nat} {row : Option Nat} (h : RM B w p l c) (k : w.grownBy w' row) (hr : ∀ g, row = some g → B < g) : RM B w' p l c := by
  obtain ⟨g, pb, cb, e, hg, KB, S, n, bb, ll⟩ := h
  subst hg
  refine ⟨B, pb, cb, e, rfl, (k.block B KB.lt (fun e => by have := hr B e.symm; omega)).trans KB, ?_, n, bb, ll⟩
  rcases S.at_ with h0 | ⟨g1, o1, rfl, A⟩
  · have : l = [] := List.eq_nil_of_length_eq_zero h0
    subst this
    exact SB.nil _ _ _
  · have hl := S.len.2
    have hn := n _ rfl
    exact SB.of_ba' (A.of_block (k.block g1 A.blk (fun e => by have := hr g1 e.symm; have : g1 < B := hn; omega))) rfl hl
/-- What the reader keeps, called in world W: its Reader at p (block B; l is left, c the fault), its box. -/
structure HS (W : World) (B : Nat) (p : Option Addr) (l : List Nat) (c : Nat) (w : World) : Prop where
  rm : RM B w p l c
  hB : B < W.heap.size
  box : Blk w W.heap.size 51 #[.pointer p]
  gb : W.grownBy w (some B)
theorem HS.step {W w w' : World} {B : Nat} {p : Option Addr} {l l' : List Nat} {c c' : Nat} (h : HS W B p l c w) (R : RM B w' p l' c') (k : w.grownBy w' (some B)) : HS W B p l' c' w' :=
  ⟨R, h.hB, blk_gb k h.box (by have := h.hB; omega), h.gb.trans k⟩
theorem HS.below {W w w' : World} {B : Nat} {p : Option Addr} {l : List Nat} {c : Nat} (h : HS W B p l c w) (b : Below w.heap.size w w') : HS W B p l c w' := h.step (h.rm.below b) (gb_below b _)
theorem HS.le {W w : World} {B : Nat} {p : Option Addr} {l : List Nat} {c : Nat} (h : HS W B p l c w) : W.heap.size ≤ w.heap.size := h.gb.size
theorem HS.leB {W w : World} {B : Nat} {p : Option Addr} {l : List Nat} {c : Nat} (h : HS W B p l c w) : B ≤ w.heap.size := by
  have := h.hB
  have := h.le
  omega
/-- A store into a block of one's own. -/
theorem HS.own {W w w' : World} {B g : Nat} {p : Option Addr} {l : List Nat} {c : Nat} (h : HS W B p l c w) (hg : W.heap.size < g) (k : w.grownBy w' (some g)) : HS W B p l c w' :=
  ⟨h.rm.gb k (fun j e => by have := Option.some.inj e; have := h.hB; omega), h.hB, blk_gb k h.box (by omega), ⟨k.os.trans h.gb.os, k.tape.trans h.gb.tape, k.output.trans h.gb.output, Nat.le_trans h.gb.size k.size, fun i hi hn => (k.block i (Nat.lt_of_lt_of_le hi h.gb.size) (fun e => by have := Option.some.inj e; omega)).trans (h.gb.block i hi hn)⟩⟩
theorem gb_store (w : World) (g i : Nat) (v : Value) : w.grownBy (w.setCell ⟨g, i, none⟩ v) (some g) := gb_set rfl w i v
theorem gb_row (w : World) (g : Nat) (cs : Array Value) : w.grownBy (w.setRow g cs) (some g) := ⟨rfl, rfl, rfl, by simp, fun k _ hn => setRow_other w g k cs (fun e => hn (by rw [e]))⟩
/-- A name: its bytes, what is left, the fault. -/
def nameS (l : List Nat) (c : Nat) : List Nat × List Nat × Nat := tkS 8 (tkS 1 l c).2.1 (if (tkS 1 l c).1.getD 0 0 ≠ 8 then failT (tkS 1 l c).2.2 5 else (tkS 1 l c).2.2)
set_option maxHeartbeats 4000000 in
set_option maxRecDepth 100000 in
theorem name_m (B : Nat) (p : Option Addr) (l : List Nat) (c : Nat) (W : World) (h : RM B W p l c) : Calls Try.prog 28 #[.agg #[.pointer p]] W fun e w' => (∃ v, e = .returned v ∧ OwL W.heap.size w' v (nameS l c).1) ∧ RM B w' p (nameS l c).2.1 (nameS l c).2.2 ∧ W.grownBy w' (some B) := by
  unfold nameS
  have BM := Lib.hid (fun w h hB => byte_m B p l c w h hB)
  rw [show tookS 1 l c = tkS 1 l c from rfl] at BM
  obtain ⟨⟨x1, l1, c1⟩, h1⟩ : ∃ q, tkS 1 l c = q := ⟨_, rfl⟩
  rw [h1] at BM ⊢
  dsimp only at BM ⊢
  clear h1
  generalize x1.getD 0 0 = y at *
  by_cases y8 : y = 8
  · rw [if_neg (fun e => e y8)]
    have YM := Lib.hid (fun w h hB => bytes_m B p l1 8 c1 w h hB)
    rw [show tookS 8 l1 c1 = tkS 8 l1 c1 from rfl] at YM
    generalize tkS 8 l1 c1 = q at *
    have g2 : ((y : Int) == 8) = true := beq_iff_eq.2 (by omega)
    have hB := h.lt
    go_enter Try.func28, Try.ntmps28
    go_upto_region 0 with fail
    rename_i aK
    refine wp_region_seq ?_
    refine wpSeq_wp rfl ?_
    unfold Oper.wp execOp
    go_simp
    refine wpSeq_yield (S := fun _ => True) (yieldsIf_assign rfl _ rfl (.slice none 0 0) rfl) trivial ?_
    simp only [AP]
    refine wpSeq_nil ?_
    refine aK _ _ ?_
    clear aK
    have b0 := (Below.refl W.heap.size W).alloc (Nat.le_refl _) (.cells #[.pointer p] 51)
    have H := Lib.hid (HS.mk (h.below b0) hB (Blk.new W 51 #[.pointer p]) (gb_below b0 _))
    generalize World.alloc W _ = w2 at *
    clear b0 hB h
    go_upto_region 1 with fail
    rename_i aK
    refine wp_region_seq ?_
    refine wpSeq_yield (S := fun _ => True) (v := .pointer (some ⟨W.heap.size, 0, none⟩)) (Or.inl ⟨by rfl, fun w' hw' => by go_simp⟩) trivial ?_
    simp only [AP]
    refine wpSeq_yield (S := fun w' => w' = w2) (v := .pointer p) (Or.inl ⟨by rfl, fun w' hw' => by (rw [hw']; have cc : w2.cell? ⟨W.heap.size, 0, none⟩ = some (.pointer p) := H.out.box.cell 0; go_simp)⟩) rfl ?_
    simp only [AP]
    refine wpSeq_wp rfl ?_
    unfold Oper.wp execOp
    go_simp
    refine (BM.out _ H.out.rm H.out.leB).mono ?_
    rintro _ w3 ⟨rfl, R1, k1⟩
    replace H := Lib.hid (H.out.step R1 k1)
    clear R1 k1
    go_simp
    refine wpSeq_yield (S := fun _ => True) (v := .bool false) (Or.inl ⟨by rfl, fun w' hw' => by (go_simp; try omega)⟩) trivial ?_
    simp only [AP]
    refine wpSeq_nil ?_
    refine (by assumption : ∀ (a : Act) (w : World), _ → _) _ _ ?_
    go_upto_region 3 with fail
    rename_i aK
    refine wp_region_seq ?_
    refine wpSeq_yield (S := fun _ => True) (v := .pointer (some ⟨W.heap.size, 0, none⟩)) (Or.inl ⟨by rfl, fun w' hw' => by go_simp⟩) trivial ?_
    simp only [AP]
    refine wpSeq_yield (S := fun w' => w' = w3) (v := .pointer p) (Or.inl ⟨by rfl, fun w' hw' => by (rw [hw']; have cc : w3.cell? ⟨W.heap.size, 0, none⟩ = some (.pointer p) := H.out.box.cell 0; go_simp)⟩) rfl ?_
    simp only [AP]
    refine wpSeq_wp rfl ?_
    unfold Oper.wp execOp
    go_simp
    refine (YM.out _ H.out.rm H.out.leB).mono ?_
    rintro _ w4 ⟨⟨v9, rfl, O9⟩, R1, k1⟩
    replace O9 := Lib.hid (O9.mono_ H.out.le)
    replace H := Lib.hid (H.out.step R1 k1)
    clear R1 k1
    go_simp
    refine wpSeq_yield (S := fun _ => True) (yieldsIf_assign rfl _ rfl (v9) rfl) trivial ?_
    simp only [AP]
    refine wpSeq_nil ?_
    refine (by assumption : ∀ (a : Act) (w : World), _ → _) _ _ ?_
    go_wp2
    go_ret
    exact ⟨⟨_, rfl, O9.out⟩, H.out.rm, H.out.gb⟩
  · rw [if_pos y8]
    have FM := Lib.hid (fun w h hB => fail_m B p l1 c1 5 w h hB)
    rw [show (if c1 = 0 then 5 else c1) = failT c1 5 from rfl] at FM
    generalize failT c1 5 = c2 at *
    have YM := Lib.hid (fun w h hB => bytes_m B p l1 8 c2 w h hB)
    rw [show tookS 8 l1 c2 = tkS 8 l1 c2 from rfl] at YM
    generalize tkS 8 l1 c2 = q at *
    have g2 : ((y : Int) == 8) = false := beq_eq_false_iff_ne.2 (by omega)
    have hB := h.lt
    go_enter Try.func28, Try.ntmps28
    go_upto_region 0 with fail
    rename_i aK
    refine wp_region_seq ?_
    refine wpSeq_wp rfl ?_
    unfold Oper.wp execOp
    go_simp
    refine wpSeq_yield (S := fun _ => True) (yieldsIf_assign rfl _ rfl (.slice none 0 0) rfl) trivial ?_
    simp only [AP]
    refine wpSeq_nil ?_
    refine aK _ _ ?_
    clear aK
    have b0 := (Below.refl W.heap.size W).alloc (Nat.le_refl _) (.cells #[.pointer p] 51)
    have H := Lib.hid (HS.mk (h.below b0) hB (Blk.new W 51 #[.pointer p]) (gb_below b0 _))
    generalize World.alloc W _ = w2 at *
    clear b0 hB h
    go_upto_region 1 with fail
    rename_i aK
    refine wp_region_seq ?_
    refine wpSeq_yield (S := fun _ => True) (v := .pointer (some ⟨W.heap.size, 0, none⟩)) (Or.inl ⟨by rfl, fun w' hw' => by go_simp⟩) trivial ?_
    simp only [AP]
    refine wpSeq_yield (S := fun w' => w' = w2) (v := .pointer p) (Or.inl ⟨by rfl, fun w' hw' => by (rw [hw']; have cc : w2.cell? ⟨W.heap.size, 0, none⟩ = some (.pointer p) := H.out.box.cell 0; go_simp)⟩) rfl ?_
    simp only [AP]
    refine wpSeq_wp rfl ?_
    unfold Oper.wp execOp
    go_simp
    refine (BM.out _ H.out.rm H.out.leB).mono ?_
    rintro _ w3 ⟨rfl, R1, k1⟩
    replace H := Lib.hid (H.out.step R1 k1)
    clear R1 k1
    go_simp
    refine wpSeq_yield (S := fun _ => True) (v := .bool true) (Or.inl ⟨by rfl, fun w' hw' => by (go_simp; try omega)⟩) trivial ?_
    simp only [AP]
    refine wpSeq_nil ?_
    refine (by assumption : ∀ (a : Act) (w : World), _ → _) _ _ ?_
    go_upto_region 2 with fail
    rename_i aK
    refine wp_region_seq ?_
    refine wpSeq_yield (S := fun _ => True) (v := .pointer (some ⟨W.heap.size, 0, none⟩)) (Or.inl ⟨by rfl, fun w' hw' => by go_simp⟩) trivial ?_
    simp only [AP]
    refine wpSeq_yield (S := fun w' => w' = w3) (v := .pointer p) (Or.inl ⟨by rfl, fun w' hw' => by (rw [hw']; have cc : w3.cell? ⟨W.heap.size, 0, none⟩ = some (.pointer p) := H.out.box.cell 0; go_simp)⟩) rfl ?_
    simp only [AP]
    refine wpSeq_wp rfl ?_
    unfold Oper.wp execOp
    go_simp
    refine (FM.out _ H.out.rm H.out.leB).mono ?_
    rintro _ w4 ⟨⟨vx, rfl⟩, R1, k1⟩
    replace H := Lib.hid (H.out.step R1 k1)
    clear R1 k1
    go_simp
    refine wpSeq_nil ?_
    refine (by assumption : ∀ (a : Act) (w : World), _ → _) _ _ ?_
    go_upto_region 3 with fail
    rename_i aK
    refine wp_region_seq ?_
    refine wpSeq_yield (S := fun _ => True) (v := .pointer (some ⟨W.heap.size, 0, none⟩)) (Or.inl ⟨by rfl, fun w' hw' => by go_simp⟩) trivial ?_
    simp only [AP]
    refine wpSeq_yield (S := fun w' => w' = w4) (v := .pointer p) (Or.inl ⟨by rfl, fun w' hw' => by (rw [hw']; have cc : w4.cell? ⟨W.heap.size, 0, none⟩ = some (.pointer p) := H.out.box.cell 0; go_simp)⟩) rfl ?_
    simp only [AP]
    refine wpSeq_wp rfl ?_
    unfold Oper.wp execOp
    go_simp
    refine (YM.out _ H.out.rm H.out.leB).mono ?_
    rintro _ w5 ⟨⟨v9, rfl, O9⟩, R1, k1⟩
    replace O9 := Lib.hid (O9.mono_ H.out.le)
    replace H := Lib.hid (H.out.step R1 k1)
    clear R1 k1
    go_simp
    refine wpSeq_yield (S := fun _ => True) (yieldsIf_assign rfl _ rfl (v9) rfl) trivial ?_
    simp only [AP]
    refine wpSeq_nil ?_
    refine (by assumption : ∀ (a : Act) (w : World), _ → _) _ _ ?_
    go_wp2
    go_ret
    exact ⟨⟨_, rfl, O9.out⟩, H.out.rm, H.out.gb⟩
/-- A size: which is answered. -/
def sizeN (q : Nat × List Nat × Nat) : Nat := if q.2.1.length < q.1 then 0 else q.1
set_option maxHeartbeats 4000000 in
set_option maxRecDepth 100000 in
theorem size_m (B : Nat) (p : Option Addr) (l : List Nat) (c : Nat) (W : World) (h : RM B W p l c) : Calls Try.prog 29 #[.agg #[.pointer p]] W fun e w' => e = .returned (.int .i64 ((sizeN (numS l c) : Nat) : Int)) ∧ RM B w' p (numS l c).2.1 (lackN (numS l c)) ∧ W.grownBy w' (some B) ∧ (numS l c).2.1.length ≤ 1000000 := by
  have NM := Lib.hid (fun w h hB => num_m B p l c w h hB)
  obtain ⟨⟨n, l1, c1⟩, h1⟩ : ∃ q, numS l c = q := ⟨_, rfl⟩
  rw [h1] at NM ⊢
  dsimp only at NM ⊢
  clear h1
  have LM := Lib.hid (fun w h hB => left_m B p l1 c1 w h hB)
  by_cases gt : l1.length < n
  · rw [show sizeN (n, l1, c1) = 0 from if_pos gt, show lackN (n, l1, c1) = (if c1 = 0 then 3 else c1) by
      show (if c1 = 0 ∧ l1.length < n then 3 else c1) = _
      by_cases e : c1 = 0
      · rw [if_pos ⟨e, gt⟩, if_pos e]
      · rw [if_neg (fun x => e x.1), if_neg e]]
    have FM := Lib.hid (fun w h hB => fail_m B p l1 c1 3 w h hB)
    generalize (if c1 = 0 then 3 else c1) = c2 at *
    have hB := h.lt
    go_enter Try.func29, Try.ntmps29
    go_upto_region 0 with fail
    rename_i aK
    refine wp_region_seq ?_
    refine wpSeq_wp rfl ?_
    unfold Oper.wp execOp
    go_simp
    refine wpSeq_yield (S := fun _ => True) (yieldsIf_assign rfl _ rfl (.int .i64 0) rfl) trivial ?_
    simp only [AP]
    refine wpSeq_nil ?_
    refine aK _ _ ?_
    clear aK
    have b0 := (Below.refl W.heap.size W).alloc (Nat.le_refl _) (.cells #[.pointer p] 51)
    have H := Lib.hid (HS.mk (h.below b0) hB (Blk.new W 51 #[.pointer p]) (gb_below b0 _))
    generalize World.alloc W _ = w2 at *
    clear b0 hB h
    go_upto_region 1 with fail
    rename_i aK
    refine wp_region_seq ?_
    refine wpSeq_yield (S := fun _ => True) (v := .pointer (some ⟨W.heap.size, 0, none⟩)) (Or.inl ⟨by rfl, fun w' hw' => by go_simp⟩) trivial ?_
    simp only [AP]
    refine wpSeq_yield (S := fun w' => w' = w2) (v := .pointer p) (Or.inl ⟨by rfl, fun w' hw' => by (rw [hw']; have cc : w2.cell? ⟨W.heap.size, 0, none⟩ = some (.pointer p) := H.out.box.cell 0; go_simp)⟩) rfl ?_
    simp only [AP]
    refine wpSeq_wp rfl ?_
    unfold Oper.wp execOp
    go_simp
    refine (NM.out _ H.out.rm H.out.leB).mono ?_
    rintro _ w3 ⟨rfl, R1, k1⟩
    replace H := Lib.hid (H.out.step R1 k1)
    clear R1 k1
    go_simp
    refine wpSeq_yield (S := fun _ => True) (yieldsIf_assign rfl _ rfl (.int .u64 (n : Int)) rfl) trivial ?_
    simp only [AP]
    refine wpSeq_nil ?_
    refine (by assumption : ∀ (a : Act) (w : World), _ → _) _ _ ?_
    have l6 := rm_len H.out.rm
    generalize hL : l1.length = L at *
    have cv : IntKind.u64.wrap (L : Int) = (L : Int) := by rw [IntKind.wrap_u64]; omega
    go_upto_region 2 with fail
    rename_i aK
    refine wp_region_seq ?_
    refine wpSeq_yield (S := fun _ => True) (yieldsIf_move rfl _ rfl (.int .u64 (n : Int)) rfl) trivial ?_
    simp only [AP]
    refine wpSeq_yield (S := fun _ => True) (v := .pointer (some ⟨W.heap.size, 0, none⟩)) (Or.inl ⟨by rfl, fun w' hw' => by go_simp⟩) trivial ?_
    simp only [AP]
    refine wpSeq_yield (S := fun w' => w' = w3) (v := .pointer p) (Or.inl ⟨by rfl, fun w' hw' => by (rw [hw']; have cc : w3.cell? ⟨W.heap.size, 0, none⟩ = some (.pointer p) := H.out.box.cell 0; go_simp)⟩) rfl ?_
    simp only [AP]
    refine wpSeq_wp rfl ?_
    unfold Oper.wp execOp
    go_simp
    refine (LM.out _ H.out.rm H.out.leB).mono ?_
    rintro _ w4 ⟨rfl, R1, k1⟩
    replace H := Lib.hid (H.out.step R1 k1)
    clear R1 k1
    go_simp
    refine wpSeq_yield (S := fun _ => True) (v := .int .u64 (L : Int)) (Or.inl ⟨by rfl, fun w' hw' => by go_simp⟩) trivial ?_
    simp only [AP]
    refine wpSeq_yield (S := fun _ => True) (v := .bool true) (Or.inl ⟨by rfl, fun w' hw' => by (go_simp; try omega)⟩) trivial ?_
    simp only [AP]
    refine wpSeq_nil ?_
    refine (by assumption : ∀ (a : Act) (w : World), _ → _) _ _ ?_
    go_upto_region 3 with fail
    rename_i aK
    refine wp_region_seq ?_
    refine wpSeq_yield (S := fun _ => True) (v := .pointer (some ⟨W.heap.size, 0, none⟩)) (Or.inl ⟨by rfl, fun w' hw' => by go_simp⟩) trivial ?_
    simp only [AP]
    refine wpSeq_yield (S := fun w' => w' = w4) (v := .pointer p) (Or.inl ⟨by rfl, fun w' hw' => by (rw [hw']; have cc : w4.cell? ⟨W.heap.size, 0, none⟩ = some (.pointer p) := H.out.box.cell 0; go_simp)⟩) rfl ?_
    simp only [AP]
    refine wpSeq_wp rfl ?_
    unfold Oper.wp execOp
    go_simp
    refine (FM.out _ H.out.rm H.out.leB).mono ?_
    rintro _ w5 ⟨⟨vx, rfl⟩, R1, k1⟩
    replace H := Lib.hid (H.out.step R1 k1)
    clear R1 k1
    go_simp
    refine wpSeq_nil ?_
    refine (by assumption : ∀ (a : Act) (w : World), _ → _) _ _ ?_
    go_upto_region 4 with fail
    rename_i aK
    refine wp_region_seq ?_
    refine wpSeq_yield (S := fun _ => True) (yieldsIf_assign rfl _ rfl (.int .i64 0) rfl) trivial ?_
    simp only [AP]
    refine wpSeq_nil ?_
    refine (by assumption : ∀ (a : Act) (w : World), _ → _) _ _ ?_
    go_wp2
    go_ret
    exact ⟨rfl, H.out.rm, H.out.gb, by rw [hL]; exact l6⟩
  · rw [show sizeN (n, l1, c1) = n from if_neg gt, show lackN (n, l1, c1) = c1 from if_neg (fun x => gt x.2)]
    have hB := h.lt
    go_enter Try.func29, Try.ntmps29
    go_upto_region 0 with fail
    rename_i aK
    refine wp_region_seq ?_
    refine wpSeq_wp rfl ?_
    unfold Oper.wp execOp
    go_simp
    refine wpSeq_yield (S := fun _ => True) (yieldsIf_assign rfl _ rfl (.int .i64 0) rfl) trivial ?_
    simp only [AP]
    refine wpSeq_nil ?_
    refine aK _ _ ?_
    clear aK
    have b0 := (Below.refl W.heap.size W).alloc (Nat.le_refl _) (.cells #[.pointer p] 51)
    have H := Lib.hid (HS.mk (h.below b0) hB (Blk.new W 51 #[.pointer p]) (gb_below b0 _))
    generalize World.alloc W _ = w2 at *
    clear b0 hB h
    go_upto_region 1 with fail
    rename_i aK
    refine wp_region_seq ?_
    refine wpSeq_yield (S := fun _ => True) (v := .pointer (some ⟨W.heap.size, 0, none⟩)) (Or.inl ⟨by rfl, fun w' hw' => by go_simp⟩) trivial ?_
    simp only [AP]
    refine wpSeq_yield (S := fun w' => w' = w2) (v := .pointer p) (Or.inl ⟨by rfl, fun w' hw' => by (rw [hw']; have cc : w2.cell? ⟨W.heap.size, 0, none⟩ = some (.pointer p) := H.out.box.cell 0; go_simp)⟩) rfl ?_
    simp only [AP]
    refine wpSeq_wp rfl ?_
    unfold Oper.wp execOp
    go_simp
    refine (NM.out _ H.out.rm H.out.leB).mono ?_
    rintro _ w3 ⟨rfl, R1, k1⟩
    replace H := Lib.hid (H.out.step R1 k1)
    clear R1 k1
    go_simp
    refine wpSeq_yield (S := fun _ => True) (yieldsIf_assign rfl _ rfl (.int .u64 (n : Int)) rfl) trivial ?_
    simp only [AP]
    refine wpSeq_nil ?_
    refine (by assumption : ∀ (a : Act) (w : World), _ → _) _ _ ?_
    have l6 := rm_len H.out.rm
    generalize hL : l1.length = L at *
    have cv : IntKind.u64.wrap (L : Int) = (L : Int) := by rw [IntKind.wrap_u64]; omega
    have cn : IntKind.i64.wrap (n : Int) = (n : Int) := by rw [IntKind.wrap_i64]; omega
    go_upto_region 2 with fail
    rename_i aK
    refine wp_region_seq ?_
    refine wpSeq_yield (S := fun _ => True) (yieldsIf_move rfl _ rfl (.int .u64 (n : Int)) rfl) trivial ?_
    simp only [AP]
    refine wpSeq_yield (S := fun _ => True) (v := .pointer (some ⟨W.heap.size, 0, none⟩)) (Or.inl ⟨by rfl, fun w' hw' => by go_simp⟩) trivial ?_
    simp only [AP]
    refine wpSeq_yield (S := fun w' => w' = w3) (v := .pointer p) (Or.inl ⟨by rfl, fun w' hw' => by (rw [hw']; have cc : w3.cell? ⟨W.heap.size, 0, none⟩ = some (.pointer p) := H.out.box.cell 0; go_simp)⟩) rfl ?_
    simp only [AP]
    refine wpSeq_wp rfl ?_
    unfold Oper.wp execOp
    go_simp
    refine (LM.out _ H.out.rm H.out.leB).mono ?_
    rintro _ w4 ⟨rfl, R1, k1⟩
    replace H := Lib.hid (H.out.step R1 k1)
    clear R1 k1
    go_simp
    refine wpSeq_yield (S := fun _ => True) (v := .int .u64 (L : Int)) (Or.inl ⟨by rfl, fun w' hw' => by go_simp⟩) trivial ?_
    simp only [AP]
    refine wpSeq_yield (S := fun _ => True) (v := .bool false) (Or.inl ⟨by rfl, fun w' hw' => by (go_simp; try omega)⟩) trivial ?_
    simp only [AP]
    refine wpSeq_nil ?_
    refine (by assumption : ∀ (a : Act) (w : World), _ → _) _ _ ?_
    go_upto_region 5 with fail
    rename_i aK
    refine wp_region_seq ?_
    refine wpSeq_yield (S := fun _ => True) (yieldsIf_move rfl _ rfl (.int .u64 (n : Int)) rfl) trivial ?_
    simp only [AP]
    refine wpSeq_yield (S := fun _ => True) (v := .int .i64 (n : Int)) (Or.inl ⟨by rfl, fun w' hw' => by go_simp⟩) trivial ?_
    simp only [AP]
    refine wpSeq_yield (S := fun _ => True) (yieldsIf_assign rfl _ rfl (.int .i64 (n : Int)) rfl) trivial ?_
    simp only [AP]
    refine wpSeq_nil ?_
    refine (by assumption : ∀ (a : Act) (w : World), _ → _) _ _ ?_
    go_wp2
    go_ret
    exact ⟨rfl, H.out.rm, H.out.gb, by rw [hL]; exact l6⟩
end Go.Proofs.Ytfhiflakglhneaa
