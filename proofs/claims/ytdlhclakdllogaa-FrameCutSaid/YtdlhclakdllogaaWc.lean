/- The program's parsing: a STREAM (printed by gen11/wb.py). -/
import Derived.Test.YtdlhclakdllogaaWa
namespace Go.Proofs.Ytdlhclakdllogaa
open Go.RowKit

def nu8 : Value → Bool
  | .int .u8 _ => false
  | _ => true
theorem nu8_at {L : List Value} (h : L.all nu8 = true) : ∀ (i : Nat) (x : Int), L.toArray[i]? ≠ some (.int .u8 x) := fun i x e => by
  rw [List.getElem?_toArray] at e
  have := List.all_eq_true.1 h _ (List.mem_of_getElem? e)
  cases this
theorem RM.far {B gf : Nat} {w : World} {p : Option Addr} {l : List Nat} {c : Nat} {t : TypeId} {cs : Array Value} (h : RM B w p l c) (K : Blk w gf t cs) (ne : gf ≠ B) (hu : ∀ (i : Nat) (x : Int), cs[i]? ≠ some (.int .u8 x)) (i : Nat) (v : Value) : RM B (w.setCell ⟨gf, i, none⟩ v) p l c := by
  obtain ⟨g, pb, cb, e, hg, KB, S, n, bb, ll⟩ := h
  refine ⟨g, pb, cb, e, hg, KB.far (p := ⟨gf, i, none⟩) (by rw [← hg]; exact fun e => ne e.symm) v, ?_, n, bb, ll⟩
  rcases S.at_ with h0 | ⟨g1, o1, rfl, A⟩
  · have : l = [] := List.eq_nil_of_length_eq_zero h0
    subst this
    exact SB.nil _ _ _
  · by_cases h0 : l = []
    · subst h0
      exact SB.nil _ _ _
    · refine S.far (fun a ha => ?_) i v
      cases ha
      intro e1
      have e1 : g1 = gf := e1
      subst e1
      have := A.cell 0 (List.length_pos_iff.2 h0)
      rw [K.cell] at this
      exact hu _ _ this
theorem two_gb {w w' : World} {B : Nat} (k : w.grownBy w' (some B)) (gf : Nat) : Two B gf w w' := ⟨k.os, k.tape, k.output, k.size, fun i hi hx _ => k.block i hi (fun e => hx (Option.some.inj e))⟩
theorem info_rd : (Try.prog.info? 58).map (·.size) = some [Value.pointer none].length := by kernel_rfl
set_option maxHeartbeats 8000000 in
set_option maxRecDepth 100000 in
theorem stream10 (B gf : Nat) (p : Option Addr) (l : List Nat) (c : Nat) (z1 : Nat) (l1 : List Nat) (c1 : Nat) (hz1 : numS l c = (z1, l1, c1)) (D ld : List Nat) (cd : Nat) (hD : dataS l1 c1 = (D, ld, cd)) (W : World) (h : RM B W p l c) (hB : B ≤ W.heap.size) (K : Blk W gf 26 #[.int .u64 10, .int .u64 0, .int .u64 0, .int .u64 0, .int .u64 0, .bool false, .slice none 0 0, .slice none 0 0]) (ne : gf ≠ B) :
    Calls Try.prog 42 #[.agg #[.pointer p], .pointer (some ⟨gf, 0, none⟩)] W fun e w' => (∃ v, e = .returned v) ∧ (∃ vd, Blk w' gf 26 #[.int .u64 8, .int .u64 (z1 : Int), .int .u64 0, .int .u64 0, .int .u64 0, .bool false, vd, .slice none 0 0] ∧ OwL W.heap.size w' vd D) ∧ RM B w' p ld cd ∧ Two B gf W w' := by
  have N1 := Lib.hid (fun w h hB => num_m B p l c w h hB)
  rw [hz1] at N1
  have DM := Lib.hid (fun w h hB => data_m B p l1 c1 w h hB)
  rw [hD] at DM
  dsimp only at N1  DM
  clear hz1 hD
  have hlt : B < W.heap.size := by
    obtain ⟨g, pb, cb, _, hg, KB, _⟩ := h
    have := KB.lt
    omega
  have neB := Lib.hid (show W.heap.size ≠ B by omega)
  have neR := Lib.hid (show W.heap.size ≠ gf by have := K.lt; omega)
  have glt := Lib.hid K.lt
  replace ne := Lib.hid ne
  clear hlt
  go_enter Try.func42, Try.ntmps42
  go_upto_region 0 with fail
  rename_i aK
  refine wp_region_seq ?_
  refine wpSeq_wp rfl ?_
  unfold Oper.wp execOp
  go_simp
  refine wpSeq_nil ?_
  refine aK _ _ ?_
  clear aK
  have b0 := (Below.refl W.heap.size W).alloc (Nat.le_refl _) (.cells #[.pointer p] 58)
  have KR := Lib.hid (Blk.new W 58 #[.pointer p])
  replace K := Lib.hid (K.below' b0)
  replace h := Lib.hid (h.below b0)
  generalize World.alloc W _ = W2 at *
  have T := Two.of b0 (x := B) (y := gf)
  have hb := Nat.le_trans hB b0.size
  have hs0 := b0.size
  clear b0 hB
  go_upto_region 1 with fail
  rename_i aK
  refine wp_region_seq ?_
  refine wpSeq_yield (S := fun _ => True) (yieldsIf_move rfl _ rfl (.pointer (some ⟨gf, 0, none⟩)) rfl) trivial ?_
  simp only [AP]
  refine wpSeq_yield (S := fun _ => True) (v := .pointer (some ⟨gf, 0, none⟩)) (Or.inl ⟨by rfl, fun w' hw' => by go_simp⟩) trivial ?_
  simp only [AP]
  refine wpSeq_yield (S := fun _ => True) (v := .pointer (some ⟨gf, 0, none⟩)) (Or.inl ⟨by rfl, fun w' hw' => by go_simp⟩) trivial ?_
  simp only [AP]
  refine wpSeq_yield (S := fun w' => w' = W2) (v := .int .u64 10) (Or.inl ⟨by rfl, fun w' hw' => by (rw [hw']; have cc : W2.cell? ⟨gf, 0, none⟩ = some (.int .u64 10) := K.out.cell 0; go_simp)⟩) rfl ?_
  simp only [AP]
  refine wpSeq_yield (S := fun _ => True) (yieldsIf_assign rfl _ rfl (.int .u64 10) rfl) trivial ?_
  simp only [AP]
  refine wpSeq_nil ?_
  refine aK _ _ ?_
  clear aK
  go_upto_region 2 with fail
  rename_i aK
  refine wp_region_seq ?_
  refine wpSeq_yield (S := fun _ => True) (yieldsIf_move rfl _ rfl (.pointer (some ⟨gf, 0, none⟩)) rfl) trivial ?_
  simp only [AP]
  refine wpSeq_yield (S := fun _ => True) (v := .pointer (some ⟨gf, 0, none⟩)) (Or.inl ⟨by rfl, fun w' hw' => by go_simp⟩) trivial ?_
  simp only [AP]
  refine wpSeq_yield (S := fun _ => True) (v := .pointer (some ⟨gf, 0, none⟩)) (Or.inl ⟨by rfl, fun w' hw' => by go_simp⟩) trivial ?_
  simp only [AP]
  have cs : W2.cell? ⟨gf, 0, none⟩ = some (.int .u64 10) := K.out.cell 0
  have fz := K.out.frozen 0
  refine wpSeq_wp rfl ?_
  unfold Oper.wp execOp
  go_simp
  have K2 : Blk (W2.setCell ⟨gf, 0, none⟩ (.int .u64 8)) gf 26 #[.int .u64 8, .int .u64 0, .int .u64 0, .int .u64 0, .int .u64 0, .bool false, .slice none 0 0, .slice none 0 0] := K.out.set 0 _
  have h2 := RM.far h.out K.out ne.out (nu8_at rfl) 0 (.int .u64 8)
  have KR2 := KR.out.far (p := ⟨gf, 0, none⟩) neR.out (.int .u64 8)
  have T2 := T.trans (Two.set_y W2 0 (.int .u64 8))
  replace K := Lib.hid K2
  replace h := Lib.hid h2
  replace KR := Lib.hid KR2
  replace T := T2
  replace hb := Nat.le_trans hb (Two.set_y (x := B) (y := gf) W2 0 (.int .u64 8)).size
  clear cs fz K2 h2 KR2 T2
  generalize World.setCell _ _ _ = W3 at *
  refine wpSeq_nil ?_
  refine aK _ _ ?_
  clear aK
  go_upto_region 3 with fail
  rename_i aK
  refine wp_region_seq ?_
  refine wpSeq_yield (S := fun _ => True) (yieldsIf_move rfl _ rfl (.pointer (some ⟨gf, 0, none⟩)) rfl) trivial ?_
  simp only [AP]
  refine wpSeq_yield (S := fun _ => True) (yieldsIf_move rfl _ rfl (.int .u64 10) rfl) trivial ?_
  simp only [AP]
  refine wpSeq_yield (S := fun _ => True) (v := .int .u64 0) (Or.inl ⟨by rfl, fun w' hw' => by (go_simp; try decide)⟩) trivial ?_
  simp only [AP]
  refine wpSeq_yield (S := fun _ => True) (v := .bool false) (Or.inl ⟨by rfl, fun w' hw' => by (go_simp; try decide)⟩) trivial ?_
  simp only [AP]
  refine wpSeq_yield (S := fun _ => True) (v := .pointer (some ⟨gf, 0, none⟩)) (Or.inl ⟨by rfl, fun w' hw' => by go_simp⟩) trivial ?_
  simp only [AP]
  refine wpSeq_yield (S := fun _ => True) (v := .pointer (some ⟨gf, 5, none⟩)) (Or.inl ⟨by rfl, fun w' hw' => by go_simp⟩) trivial ?_
  simp only [AP]
  have cs : W3.cell? ⟨gf, 5, none⟩ = some (.bool false) := K.out.cell 5
  have fz := K.out.frozen 5
  refine wpSeq_wp rfl ?_
  unfold Oper.wp execOp
  go_simp
  have K2 : Blk (W3.setCell ⟨gf, 5, none⟩ (.bool false)) gf 26 #[.int .u64 8, .int .u64 0, .int .u64 0, .int .u64 0, .int .u64 0, .bool false, .slice none 0 0, .slice none 0 0] := K.out.set 5 _
  have h2 := RM.far h.out K.out ne.out (nu8_at rfl) 5 (.bool false)
  have KR2 := KR.out.far (p := ⟨gf, 5, none⟩) neR.out (.bool false)
  have T2 := T.trans (Two.set_y W3 5 (.bool false))
  replace K := Lib.hid K2
  replace h := Lib.hid h2
  replace KR := Lib.hid KR2
  replace T := T2
  replace hb := Nat.le_trans hb (Two.set_y (x := B) (y := gf) W3 5 (.bool false)).size
  clear cs fz K2 h2 KR2 T2
  generalize World.setCell _ _ _ = W4 at *
  refine wpSeq_nil ?_
  refine aK _ _ ?_
  clear aK
  go_upto_region 4 with fail
  rename_i aK
  refine wp_region_seq ?_
  refine wpSeq_yield (S := fun _ => True) (yieldsIf_move rfl _ rfl (.pointer (some ⟨gf, 0, none⟩)) rfl) trivial ?_
  simp only [AP]
  refine wpSeq_yield (S := fun _ => True) (v := .pointer (some ⟨W.heap.size, 0, none⟩)) (Or.inl ⟨by rfl, fun w' hw' => by go_simp⟩) trivial ?_
  simp only [AP]
  refine wpSeq_yield (S := fun w' => w' = W4) (v := .pointer p) (Or.inl ⟨by rfl, fun w' hw' => by (rw [hw']; have cc : W4.cell? ⟨W.heap.size, 0, none⟩ = some (.pointer p) := KR.out.cell 0; go_simp)⟩) rfl ?_
  simp only [AP]
  refine wpSeq_wp rfl ?_
  unfold Oper.wp execOp
  go_simp
  refine (N1.out _ h.out hb).mono ?_
  rintro _ W5 ⟨rfl, h1, b1⟩
  replace K := Lib.hid (blk_gb b1 K.out ne.out)
  replace KR := Lib.hid (blk_gb b1 KR.out neB.out)
  replace h := Lib.hid h1
  replace T := T.trans (two_gb b1 gf)
  replace hb := Nat.le_trans hb b1.size
  clear h1 b1 N1
  go_simp
  refine wpSeq_yield (S := fun _ => True) (v := .pointer (some ⟨gf, 0, none⟩)) (Or.inl ⟨by rfl, fun w' hw' => by go_simp⟩) trivial ?_
  simp only [AP]
  refine wpSeq_yield (S := fun _ => True) (v := .pointer (some ⟨gf, 1, none⟩)) (Or.inl ⟨by rfl, fun w' hw' => by go_simp⟩) trivial ?_
  simp only [AP]
  have cs : W5.cell? ⟨gf, 1, none⟩ = some (.int .u64 0) := K.out.cell 1
  have fz := K.out.frozen 1
  refine wpSeq_wp rfl ?_
  unfold Oper.wp execOp
  go_simp
  have K2 : Blk (W5.setCell ⟨gf, 1, none⟩ (.int .u64 (z1 : Int))) gf 26 #[.int .u64 8, .int .u64 (z1 : Int), .int .u64 0, .int .u64 0, .int .u64 0, .bool false, .slice none 0 0, .slice none 0 0] := K.out.set 1 _
  have h2 := RM.far h.out K.out ne.out (nu8_at rfl) 1 (.int .u64 (z1 : Int))
  have KR2 := KR.out.far (p := ⟨gf, 1, none⟩) neR.out (.int .u64 (z1 : Int))
  have T2 := T.trans (Two.set_y W5 1 (.int .u64 (z1 : Int)))
  replace K := Lib.hid K2
  replace h := Lib.hid h2
  replace KR := Lib.hid KR2
  replace T := T2
  replace hb := Nat.le_trans hb (Two.set_y (x := B) (y := gf) W5 1 (.int .u64 (z1 : Int))).size
  clear cs fz K2 h2 KR2 T2
  generalize World.setCell _ _ _ = W6 at *
  refine wpSeq_nil ?_
  refine aK _ _ ?_
  clear aK
  go_upto_region 5 with fail
  rename_i aK
  refine wp_region_seq ?_
  refine wpSeq_yield (S := fun _ => True) (yieldsIf_move rfl _ rfl (.int .u64 10) rfl) trivial ?_
  simp only [AP]
  refine wpSeq_yield (S := fun _ => True) (v := .int .u64 0) (Or.inl ⟨by rfl, fun w' hw' => by (go_simp; try decide)⟩) trivial ?_
  simp only [AP]
  refine wpSeq_yield (S := fun _ => True) (v := .bool false) (Or.inl ⟨by rfl, fun w' hw' => by (go_simp; try decide)⟩) trivial ?_
  simp only [AP]
  refine wpSeq_nil ?_
  refine aK _ _ ?_
  clear aK
  go_upto_region 9 with fail
  rename_i aK
  refine wp_region_seq ?_
  refine wpSeq_yield (S := fun _ => True) (yieldsIf_move rfl _ rfl (.pointer (some ⟨gf, 0, none⟩)) rfl) trivial ?_
  simp only [AP]
  refine wpSeq_yield (S := fun w' => w' = W6) (show YieldsIf _ _ _ _ (.agg #[.pointer p]) _ from yieldsIf_load_mid (S := fun w' => w' = W6) rfl 58 _ rfl W.heap.size 0 rfl [.pointer p] _ (fun _ h => h ▸ blk_range KR.out) Try.underlying58 rfl info_rd) rfl ?_
  simp only [AP]
  have T0 := Nat.le_trans (Nat.le_refl _) T.size
  refine wpSeq_wp rfl ?_
  unfold Oper.wp execOp
  go_simp
  refine (DM.out _ h.out hb).mono ?_
  rintro _ W7 ⟨⟨v3, rfl, O3⟩, h1, b1⟩
  replace K := Lib.hid (blk_gb b1 K.out ne.out)
  replace KR := Lib.hid (blk_gb b1 KR.out neB.out)
  replace h := Lib.hid h1
  replace T := T.trans (two_gb b1 gf)
  replace hb := Nat.le_trans hb b1.size
  replace O3 := O3.mono T0
  clear h1 b1 DM
  go_simp
  obtain ⟨pv, cv, hv⟩ := O3.shape
  subst hv
  generalize hDn : D.length = dn at *
  replace hDn := Lib.hid hDn
  refine wpSeq_yield (S := fun _ => True) (v := .pointer (some ⟨gf, 0, none⟩)) (Or.inl ⟨by rfl, fun w' hw' => by go_simp⟩) trivial ?_
  simp only [AP]
  refine wpSeq_yield (S := fun _ => True) (v := .pointer (some ⟨gf, 6, none⟩)) (Or.inl ⟨by rfl, fun w' hw' => by go_simp⟩) trivial ?_
  simp only [AP]
  have cs : W7.cell? ⟨gf, 6, none⟩ = some (.slice none 0 0) := K.out.cell 6
  have fz := K.out.frozen 6
  refine wpSeq_wp rfl ?_
  unfold Oper.wp execOp
  go_simp
  have K2 : Blk (W7.setCell ⟨gf, 6, none⟩ (.slice pv dn cv)) gf 26 #[.int .u64 8, .int .u64 (z1 : Int), .int .u64 0, .int .u64 0, .int .u64 0, .bool false, .slice pv dn cv, .slice none 0 0] := K.out.set 6 _
  have h2 := RM.far h.out K.out ne.out (nu8_at rfl) 6 (.slice pv dn cv)
  have KR2 := KR.out.far (p := ⟨gf, 6, none⟩) neR.out (.slice pv dn cv)
  have T2 := T.trans (Two.set_y W7 6 (.slice pv dn cv))
  have O4 : OwL W.heap.size (W7.setCell ⟨gf, 6, none⟩ (.slice pv dn cv)) (.slice pv dn cv) D := O3.of_block fun g hg => Below.heap_setCell W7 _ _ g (by have := (O3.lt g hg).1; have := glt.out; show g ≠ gf; omega)
  clear O3
  replace K := Lib.hid K2
  replace h := Lib.hid h2
  replace KR := Lib.hid KR2
  replace T := T2
  replace hb := Nat.le_trans hb (Two.set_y (x := B) (y := gf) W7 6 (.slice pv dn cv)).size
  clear cs fz K2 h2 KR2 T2
  generalize World.setCell _ _ _ = W8 at *
  refine wpSeq_nil ?_
  go_wp2
  refine bodyPost_end (results_none rfl _ _ _) rfl ?_
  exact ⟨⟨_, rfl⟩, ⟨_, K.out, O4⟩, h.out, T⟩
set_option maxHeartbeats 8000000 in
set_option maxRecDepth 100000 in
theorem stream11 (B gf : Nat) (p : Option Addr) (l : List Nat) (c : Nat) (z1 : Nat) (l1 : List Nat) (c1 : Nat) (hz1 : numS l c = (z1, l1, c1)) (D ld : List Nat) (cd : Nat) (hD : dataS l1 c1 = (D, ld, cd)) (W : World) (h : RM B W p l c) (hB : B ≤ W.heap.size) (K : Blk W gf 26 #[.int .u64 11, .int .u64 0, .int .u64 0, .int .u64 0, .int .u64 0, .bool false, .slice none 0 0, .slice none 0 0]) (ne : gf ≠ B) :
    Calls Try.prog 42 #[.agg #[.pointer p], .pointer (some ⟨gf, 0, none⟩)] W fun e w' => (∃ v, e = .returned v) ∧ (∃ vd, Blk w' gf 26 #[.int .u64 8, .int .u64 (z1 : Int), .int .u64 0, .int .u64 0, .int .u64 0, .bool true, vd, .slice none 0 0] ∧ OwL W.heap.size w' vd D) ∧ RM B w' p ld cd ∧ Two B gf W w' := by
  have N1 := Lib.hid (fun w h hB => num_m B p l c w h hB)
  rw [hz1] at N1
  have DM := Lib.hid (fun w h hB => data_m B p l1 c1 w h hB)
  rw [hD] at DM
  dsimp only at N1  DM
  clear hz1 hD
  have hlt : B < W.heap.size := by
    obtain ⟨g, pb, cb, _, hg, KB, _⟩ := h
    have := KB.lt
    omega
  have neB := Lib.hid (show W.heap.size ≠ B by omega)
  have neR := Lib.hid (show W.heap.size ≠ gf by have := K.lt; omega)
  have glt := Lib.hid K.lt
  replace ne := Lib.hid ne
  clear hlt
  go_enter Try.func42, Try.ntmps42
  go_upto_region 0 with fail
  rename_i aK
  refine wp_region_seq ?_
  refine wpSeq_wp rfl ?_
  unfold Oper.wp execOp
  go_simp
  refine wpSeq_nil ?_
  refine aK _ _ ?_
  clear aK
  have b0 := (Below.refl W.heap.size W).alloc (Nat.le_refl _) (.cells #[.pointer p] 58)
  have KR := Lib.hid (Blk.new W 58 #[.pointer p])
  replace K := Lib.hid (K.below' b0)
  replace h := Lib.hid (h.below b0)
  generalize World.alloc W _ = W2 at *
  have T := Two.of b0 (x := B) (y := gf)
  have hb := Nat.le_trans hB b0.size
  have hs0 := b0.size
  clear b0 hB
  go_upto_region 1 with fail
  rename_i aK
  refine wp_region_seq ?_
  refine wpSeq_yield (S := fun _ => True) (yieldsIf_move rfl _ rfl (.pointer (some ⟨gf, 0, none⟩)) rfl) trivial ?_
  simp only [AP]
  refine wpSeq_yield (S := fun _ => True) (v := .pointer (some ⟨gf, 0, none⟩)) (Or.inl ⟨by rfl, fun w' hw' => by go_simp⟩) trivial ?_
  simp only [AP]
  refine wpSeq_yield (S := fun _ => True) (v := .pointer (some ⟨gf, 0, none⟩)) (Or.inl ⟨by rfl, fun w' hw' => by go_simp⟩) trivial ?_
  simp only [AP]
  refine wpSeq_yield (S := fun w' => w' = W2) (v := .int .u64 11) (Or.inl ⟨by rfl, fun w' hw' => by (rw [hw']; have cc : W2.cell? ⟨gf, 0, none⟩ = some (.int .u64 11) := K.out.cell 0; go_simp)⟩) rfl ?_
  simp only [AP]
  refine wpSeq_yield (S := fun _ => True) (yieldsIf_assign rfl _ rfl (.int .u64 11) rfl) trivial ?_
  simp only [AP]
  refine wpSeq_nil ?_
  refine aK _ _ ?_
  clear aK
  go_upto_region 2 with fail
  rename_i aK
  refine wp_region_seq ?_
  refine wpSeq_yield (S := fun _ => True) (yieldsIf_move rfl _ rfl (.pointer (some ⟨gf, 0, none⟩)) rfl) trivial ?_
  simp only [AP]
  refine wpSeq_yield (S := fun _ => True) (v := .pointer (some ⟨gf, 0, none⟩)) (Or.inl ⟨by rfl, fun w' hw' => by go_simp⟩) trivial ?_
  simp only [AP]
  refine wpSeq_yield (S := fun _ => True) (v := .pointer (some ⟨gf, 0, none⟩)) (Or.inl ⟨by rfl, fun w' hw' => by go_simp⟩) trivial ?_
  simp only [AP]
  have cs : W2.cell? ⟨gf, 0, none⟩ = some (.int .u64 11) := K.out.cell 0
  have fz := K.out.frozen 0
  refine wpSeq_wp rfl ?_
  unfold Oper.wp execOp
  go_simp
  have K2 : Blk (W2.setCell ⟨gf, 0, none⟩ (.int .u64 8)) gf 26 #[.int .u64 8, .int .u64 0, .int .u64 0, .int .u64 0, .int .u64 0, .bool false, .slice none 0 0, .slice none 0 0] := K.out.set 0 _
  have h2 := RM.far h.out K.out ne.out (nu8_at rfl) 0 (.int .u64 8)
  have KR2 := KR.out.far (p := ⟨gf, 0, none⟩) neR.out (.int .u64 8)
  have T2 := T.trans (Two.set_y W2 0 (.int .u64 8))
  replace K := Lib.hid K2
  replace h := Lib.hid h2
  replace KR := Lib.hid KR2
  replace T := T2
  replace hb := Nat.le_trans hb (Two.set_y (x := B) (y := gf) W2 0 (.int .u64 8)).size
  clear cs fz K2 h2 KR2 T2
  generalize World.setCell _ _ _ = W3 at *
  refine wpSeq_nil ?_
  refine aK _ _ ?_
  clear aK
  go_upto_region 3 with fail
  rename_i aK
  refine wp_region_seq ?_
  refine wpSeq_yield (S := fun _ => True) (yieldsIf_move rfl _ rfl (.pointer (some ⟨gf, 0, none⟩)) rfl) trivial ?_
  simp only [AP]
  refine wpSeq_yield (S := fun _ => True) (yieldsIf_move rfl _ rfl (.int .u64 11) rfl) trivial ?_
  simp only [AP]
  refine wpSeq_yield (S := fun _ => True) (v := .int .u64 1) (Or.inl ⟨by rfl, fun w' hw' => by (go_simp; try decide)⟩) trivial ?_
  simp only [AP]
  refine wpSeq_yield (S := fun _ => True) (v := .bool true) (Or.inl ⟨by rfl, fun w' hw' => by (go_simp; try decide)⟩) trivial ?_
  simp only [AP]
  refine wpSeq_yield (S := fun _ => True) (v := .pointer (some ⟨gf, 0, none⟩)) (Or.inl ⟨by rfl, fun w' hw' => by go_simp⟩) trivial ?_
  simp only [AP]
  refine wpSeq_yield (S := fun _ => True) (v := .pointer (some ⟨gf, 5, none⟩)) (Or.inl ⟨by rfl, fun w' hw' => by go_simp⟩) trivial ?_
  simp only [AP]
  have cs : W3.cell? ⟨gf, 5, none⟩ = some (.bool false) := K.out.cell 5
  have fz := K.out.frozen 5
  refine wpSeq_wp rfl ?_
  unfold Oper.wp execOp
  go_simp
  have K2 : Blk (W3.setCell ⟨gf, 5, none⟩ (.bool true)) gf 26 #[.int .u64 8, .int .u64 0, .int .u64 0, .int .u64 0, .int .u64 0, .bool true, .slice none 0 0, .slice none 0 0] := K.out.set 5 _
  have h2 := RM.far h.out K.out ne.out (nu8_at rfl) 5 (.bool true)
  have KR2 := KR.out.far (p := ⟨gf, 5, none⟩) neR.out (.bool true)
  have T2 := T.trans (Two.set_y W3 5 (.bool true))
  replace K := Lib.hid K2
  replace h := Lib.hid h2
  replace KR := Lib.hid KR2
  replace T := T2
  replace hb := Nat.le_trans hb (Two.set_y (x := B) (y := gf) W3 5 (.bool true)).size
  clear cs fz K2 h2 KR2 T2
  generalize World.setCell _ _ _ = W4 at *
  refine wpSeq_nil ?_
  refine aK _ _ ?_
  clear aK
  go_upto_region 4 with fail
  rename_i aK
  refine wp_region_seq ?_
  refine wpSeq_yield (S := fun _ => True) (yieldsIf_move rfl _ rfl (.pointer (some ⟨gf, 0, none⟩)) rfl) trivial ?_
  simp only [AP]
  refine wpSeq_yield (S := fun _ => True) (v := .pointer (some ⟨W.heap.size, 0, none⟩)) (Or.inl ⟨by rfl, fun w' hw' => by go_simp⟩) trivial ?_
  simp only [AP]
  refine wpSeq_yield (S := fun w' => w' = W4) (v := .pointer p) (Or.inl ⟨by rfl, fun w' hw' => by (rw [hw']; have cc : W4.cell? ⟨W.heap.size, 0, none⟩ = some (.pointer p) := KR.out.cell 0; go_simp)⟩) rfl ?_
  simp only [AP]
  refine wpSeq_wp rfl ?_
  unfold Oper.wp execOp
  go_simp
  refine (N1.out _ h.out hb).mono ?_
  rintro _ W5 ⟨rfl, h1, b1⟩
  replace K := Lib.hid (blk_gb b1 K.out ne.out)
  replace KR := Lib.hid (blk_gb b1 KR.out neB.out)
  replace h := Lib.hid h1
  replace T := T.trans (two_gb b1 gf)
  replace hb := Nat.le_trans hb b1.size
  clear h1 b1 N1
  go_simp
  refine wpSeq_yield (S := fun _ => True) (v := .pointer (some ⟨gf, 0, none⟩)) (Or.inl ⟨by rfl, fun w' hw' => by go_simp⟩) trivial ?_
  simp only [AP]
  refine wpSeq_yield (S := fun _ => True) (v := .pointer (some ⟨gf, 1, none⟩)) (Or.inl ⟨by rfl, fun w' hw' => by go_simp⟩) trivial ?_
  simp only [AP]
  have cs : W5.cell? ⟨gf, 1, none⟩ = some (.int .u64 0) := K.out.cell 1
  have fz := K.out.frozen 1
  refine wpSeq_wp rfl ?_
  unfold Oper.wp execOp
  go_simp
  have K2 : Blk (W5.setCell ⟨gf, 1, none⟩ (.int .u64 (z1 : Int))) gf 26 #[.int .u64 8, .int .u64 (z1 : Int), .int .u64 0, .int .u64 0, .int .u64 0, .bool true, .slice none 0 0, .slice none 0 0] := K.out.set 1 _
  have h2 := RM.far h.out K.out ne.out (nu8_at rfl) 1 (.int .u64 (z1 : Int))
  have KR2 := KR.out.far (p := ⟨gf, 1, none⟩) neR.out (.int .u64 (z1 : Int))
  have T2 := T.trans (Two.set_y W5 1 (.int .u64 (z1 : Int)))
  replace K := Lib.hid K2
  replace h := Lib.hid h2
  replace KR := Lib.hid KR2
  replace T := T2
  replace hb := Nat.le_trans hb (Two.set_y (x := B) (y := gf) W5 1 (.int .u64 (z1 : Int))).size
  clear cs fz K2 h2 KR2 T2
  generalize World.setCell _ _ _ = W6 at *
  refine wpSeq_nil ?_
  refine aK _ _ ?_
  clear aK
  go_upto_region 5 with fail
  rename_i aK
  refine wp_region_seq ?_
  refine wpSeq_yield (S := fun _ => True) (yieldsIf_move rfl _ rfl (.int .u64 11) rfl) trivial ?_
  simp only [AP]
  refine wpSeq_yield (S := fun _ => True) (v := .int .u64 0) (Or.inl ⟨by rfl, fun w' hw' => by (go_simp; try decide)⟩) trivial ?_
  simp only [AP]
  refine wpSeq_yield (S := fun _ => True) (v := .bool false) (Or.inl ⟨by rfl, fun w' hw' => by (go_simp; try decide)⟩) trivial ?_
  simp only [AP]
  refine wpSeq_nil ?_
  refine aK _ _ ?_
  clear aK
  go_upto_region 9 with fail
  rename_i aK
  refine wp_region_seq ?_
  refine wpSeq_yield (S := fun _ => True) (yieldsIf_move rfl _ rfl (.pointer (some ⟨gf, 0, none⟩)) rfl) trivial ?_
  simp only [AP]
  refine wpSeq_yield (S := fun w' => w' = W6) (show YieldsIf _ _ _ _ (.agg #[.pointer p]) _ from yieldsIf_load_mid (S := fun w' => w' = W6) rfl 58 _ rfl W.heap.size 0 rfl [.pointer p] _ (fun _ h => h ▸ blk_range KR.out) Try.underlying58 rfl info_rd) rfl ?_
  simp only [AP]
  have T0 := Nat.le_trans (Nat.le_refl _) T.size
  refine wpSeq_wp rfl ?_
  unfold Oper.wp execOp
  go_simp
  refine (DM.out _ h.out hb).mono ?_
  rintro _ W7 ⟨⟨v3, rfl, O3⟩, h1, b1⟩
  replace K := Lib.hid (blk_gb b1 K.out ne.out)
  replace KR := Lib.hid (blk_gb b1 KR.out neB.out)
  replace h := Lib.hid h1
  replace T := T.trans (two_gb b1 gf)
  replace hb := Nat.le_trans hb b1.size
  replace O3 := O3.mono T0
  clear h1 b1 DM
  go_simp
  obtain ⟨pv, cv, hv⟩ := O3.shape
  subst hv
  generalize hDn : D.length = dn at *
  replace hDn := Lib.hid hDn
  refine wpSeq_yield (S := fun _ => True) (v := .pointer (some ⟨gf, 0, none⟩)) (Or.inl ⟨by rfl, fun w' hw' => by go_simp⟩) trivial ?_
  simp only [AP]
  refine wpSeq_yield (S := fun _ => True) (v := .pointer (some ⟨gf, 6, none⟩)) (Or.inl ⟨by rfl, fun w' hw' => by go_simp⟩) trivial ?_
  simp only [AP]
  have cs : W7.cell? ⟨gf, 6, none⟩ = some (.slice none 0 0) := K.out.cell 6
  have fz := K.out.frozen 6
  refine wpSeq_wp rfl ?_
  unfold Oper.wp execOp
  go_simp
  have K2 : Blk (W7.setCell ⟨gf, 6, none⟩ (.slice pv dn cv)) gf 26 #[.int .u64 8, .int .u64 (z1 : Int), .int .u64 0, .int .u64 0, .int .u64 0, .bool true, .slice pv dn cv, .slice none 0 0] := K.out.set 6 _
  have h2 := RM.far h.out K.out ne.out (nu8_at rfl) 6 (.slice pv dn cv)
  have KR2 := KR.out.far (p := ⟨gf, 6, none⟩) neR.out (.slice pv dn cv)
  have T2 := T.trans (Two.set_y W7 6 (.slice pv dn cv))
  have O4 : OwL W.heap.size (W7.setCell ⟨gf, 6, none⟩ (.slice pv dn cv)) (.slice pv dn cv) D := O3.of_block fun g hg => Below.heap_setCell W7 _ _ g (by have := (O3.lt g hg).1; have := glt.out; show g ≠ gf; omega)
  clear O3
  replace K := Lib.hid K2
  replace h := Lib.hid h2
  replace KR := Lib.hid KR2
  replace T := T2
  replace hb := Nat.le_trans hb (Two.set_y (x := B) (y := gf) W7 6 (.slice pv dn cv)).size
  clear cs fz K2 h2 KR2 T2
  generalize World.setCell _ _ _ = W8 at *
  refine wpSeq_nil ?_
  go_wp2
  refine bodyPost_end (results_none rfl _ _ _) rfl ?_
  exact ⟨⟨_, rfl⟩, ⟨_, K.out, O4⟩, h.out, T⟩
set_option maxHeartbeats 8000000 in
set_option maxRecDepth 100000 in
theorem stream14z (B gf : Nat) (p : Option Addr) (l : List Nat) (c : Nat) (z1 : Nat) (l1 : List Nat) (c1 : Nat) (hz1 : numS l c = (z1, l1, c1)) (l2 : List Nat) (c2 : Nat) (hz2 : numS l1 c1 = (0, l2, c2)) (D ld : List Nat) (cd : Nat) (hD : dataS l2 (failS c2 5) = (D, ld, cd)) (W : World) (h : RM B W p l c) (hB : B ≤ W.heap.size) (K : Blk W gf 26 #[.int .u64 14, .int .u64 0, .int .u64 0, .int .u64 0, .int .u64 0, .bool false, .slice none 0 0, .slice none 0 0]) (ne : gf ≠ B) :
    Calls Try.prog 42 #[.agg #[.pointer p], .pointer (some ⟨gf, 0, none⟩)] W fun e w' => (∃ v, e = .returned v) ∧ (∃ vd, Blk w' gf 26 #[.int .u64 8, .int .u64 (z1 : Int), .int .u64 0, .int .u64 0, .int .u64 0, .bool false, vd, .slice none 0 0] ∧ OwL W.heap.size w' vd D) ∧ RM B w' p ld cd ∧ Two B gf W w' := by
  have N1 := Lib.hid (fun w h hB => num_m B p l c w h hB)
  rw [hz1] at N1
  have N2 := Lib.hid (fun w h hB => num_m B p l1 c1 w h hB)
  rw [hz2] at N2
  have FL := Lib.hid (fun w h hB => fail_m B p l2 c2 5 w h hB)
  rw [failS_eq] at FL
  have DM := Lib.hid (fun w h hB => data_m B p l2 (failS c2 5) w h hB)
  rw [hD] at DM
  dsimp only at N1 N2 DM
  clear hz1 hz2 hD
  have hlt : B < W.heap.size := by
    obtain ⟨g, pb, cb, _, hg, KB, _⟩ := h
    have := KB.lt
    omega
  have neB := Lib.hid (show W.heap.size ≠ B by omega)
  have neR := Lib.hid (show W.heap.size ≠ gf by have := K.lt; omega)
  have glt := Lib.hid K.lt
  replace ne := Lib.hid ne
  clear hlt
  go_enter Try.func42, Try.ntmps42
  go_upto_region 0 with fail
  rename_i aK
  refine wp_region_seq ?_
  refine wpSeq_wp rfl ?_
  unfold Oper.wp execOp
  go_simp
  refine wpSeq_nil ?_
  refine aK _ _ ?_
  clear aK
  have b0 := (Below.refl W.heap.size W).alloc (Nat.le_refl _) (.cells #[.pointer p] 58)
  have KR := Lib.hid (Blk.new W 58 #[.pointer p])
  replace K := Lib.hid (K.below' b0)
  replace h := Lib.hid (h.below b0)
  generalize World.alloc W _ = W2 at *
  have T := Two.of b0 (x := B) (y := gf)
  have hb := Nat.le_trans hB b0.size
  have hs0 := b0.size
  clear b0 hB
  go_upto_region 1 with fail
  rename_i aK
  refine wp_region_seq ?_
  refine wpSeq_yield (S := fun _ => True) (yieldsIf_move rfl _ rfl (.pointer (some ⟨gf, 0, none⟩)) rfl) trivial ?_
  simp only [AP]
  refine wpSeq_yield (S := fun _ => True) (v := .pointer (some ⟨gf, 0, none⟩)) (Or.inl ⟨by rfl, fun w' hw' => by go_simp⟩) trivial ?_
  simp only [AP]
  refine wpSeq_yield (S := fun _ => True) (v := .pointer (some ⟨gf, 0, none⟩)) (Or.inl ⟨by rfl, fun w' hw' => by go_simp⟩) trivial ?_
  simp only [AP]
  refine wpSeq_yield (S := fun w' => w' = W2) (v := .int .u64 14) (Or.inl ⟨by rfl, fun w' hw' => by (rw [hw']; have cc : W2.cell? ⟨gf, 0, none⟩ = some (.int .u64 14) := K.out.cell 0; go_simp)⟩) rfl ?_
  simp only [AP]
  refine wpSeq_yield (S := fun _ => True) (yieldsIf_assign rfl _ rfl (.int .u64 14) rfl) trivial ?_
  simp only [AP]
  refine wpSeq_nil ?_
  refine aK _ _ ?_
  clear aK
  go_upto_region 2 with fail
  rename_i aK
  refine wp_region_seq ?_
  refine wpSeq_yield (S := fun _ => True) (yieldsIf_move rfl _ rfl (.pointer (some ⟨gf, 0, none⟩)) rfl) trivial ?_
  simp only [AP]
  refine wpSeq_yield (S := fun _ => True) (v := .pointer (some ⟨gf, 0, none⟩)) (Or.inl ⟨by rfl, fun w' hw' => by go_simp⟩) trivial ?_
  simp only [AP]
  refine wpSeq_yield (S := fun _ => True) (v := .pointer (some ⟨gf, 0, none⟩)) (Or.inl ⟨by rfl, fun w' hw' => by go_simp⟩) trivial ?_
  simp only [AP]
  have cs : W2.cell? ⟨gf, 0, none⟩ = some (.int .u64 14) := K.out.cell 0
  have fz := K.out.frozen 0
  refine wpSeq_wp rfl ?_
  unfold Oper.wp execOp
  go_simp
  have K2 : Blk (W2.setCell ⟨gf, 0, none⟩ (.int .u64 8)) gf 26 #[.int .u64 8, .int .u64 0, .int .u64 0, .int .u64 0, .int .u64 0, .bool false, .slice none 0 0, .slice none 0 0] := K.out.set 0 _
  have h2 := RM.far h.out K.out ne.out (nu8_at rfl) 0 (.int .u64 8)
  have KR2 := KR.out.far (p := ⟨gf, 0, none⟩) neR.out (.int .u64 8)
  have T2 := T.trans (Two.set_y W2 0 (.int .u64 8))
  replace K := Lib.hid K2
  replace h := Lib.hid h2
  replace KR := Lib.hid KR2
  replace T := T2
  replace hb := Nat.le_trans hb (Two.set_y (x := B) (y := gf) W2 0 (.int .u64 8)).size
  clear cs fz K2 h2 KR2 T2
  generalize World.setCell _ _ _ = W3 at *
  refine wpSeq_nil ?_
  refine aK _ _ ?_
  clear aK
  go_upto_region 3 with fail
  rename_i aK
  refine wp_region_seq ?_
  refine wpSeq_yield (S := fun _ => True) (yieldsIf_move rfl _ rfl (.pointer (some ⟨gf, 0, none⟩)) rfl) trivial ?_
  simp only [AP]
  refine wpSeq_yield (S := fun _ => True) (yieldsIf_move rfl _ rfl (.int .u64 14) rfl) trivial ?_
  simp only [AP]
  refine wpSeq_yield (S := fun _ => True) (v := .int .u64 0) (Or.inl ⟨by rfl, fun w' hw' => by (go_simp; try decide)⟩) trivial ?_
  simp only [AP]
  refine wpSeq_yield (S := fun _ => True) (v := .bool false) (Or.inl ⟨by rfl, fun w' hw' => by (go_simp; try decide)⟩) trivial ?_
  simp only [AP]
  refine wpSeq_yield (S := fun _ => True) (v := .pointer (some ⟨gf, 0, none⟩)) (Or.inl ⟨by rfl, fun w' hw' => by go_simp⟩) trivial ?_
  simp only [AP]
  refine wpSeq_yield (S := fun _ => True) (v := .pointer (some ⟨gf, 5, none⟩)) (Or.inl ⟨by rfl, fun w' hw' => by go_simp⟩) trivial ?_
  simp only [AP]
  have cs : W3.cell? ⟨gf, 5, none⟩ = some (.bool false) := K.out.cell 5
  have fz := K.out.frozen 5
  refine wpSeq_wp rfl ?_
  unfold Oper.wp execOp
  go_simp
  have K2 : Blk (W3.setCell ⟨gf, 5, none⟩ (.bool false)) gf 26 #[.int .u64 8, .int .u64 0, .int .u64 0, .int .u64 0, .int .u64 0, .bool false, .slice none 0 0, .slice none 0 0] := K.out.set 5 _
  have h2 := RM.far h.out K.out ne.out (nu8_at rfl) 5 (.bool false)
  have KR2 := KR.out.far (p := ⟨gf, 5, none⟩) neR.out (.bool false)
  have T2 := T.trans (Two.set_y W3 5 (.bool false))
  replace K := Lib.hid K2
  replace h := Lib.hid h2
  replace KR := Lib.hid KR2
  replace T := T2
  replace hb := Nat.le_trans hb (Two.set_y (x := B) (y := gf) W3 5 (.bool false)).size
  clear cs fz K2 h2 KR2 T2
  generalize World.setCell _ _ _ = W4 at *
  refine wpSeq_nil ?_
  refine aK _ _ ?_
  clear aK
  go_upto_region 4 with fail
  rename_i aK
  refine wp_region_seq ?_
  refine wpSeq_yield (S := fun _ => True) (yieldsIf_move rfl _ rfl (.pointer (some ⟨gf, 0, none⟩)) rfl) trivial ?_
  simp only [AP]
  refine wpSeq_yield (S := fun _ => True) (v := .pointer (some ⟨W.heap.size, 0, none⟩)) (Or.inl ⟨by rfl, fun w' hw' => by go_simp⟩) trivial ?_
  simp only [AP]
  refine wpSeq_yield (S := fun w' => w' = W4) (v := .pointer p) (Or.inl ⟨by rfl, fun w' hw' => by (rw [hw']; have cc : W4.cell? ⟨W.heap.size, 0, none⟩ = some (.pointer p) := KR.out.cell 0; go_simp)⟩) rfl ?_
  simp only [AP]
  refine wpSeq_wp rfl ?_
  unfold Oper.wp execOp
  go_simp
  refine (N1.out _ h.out hb).mono ?_
  rintro _ W5 ⟨rfl, h1, b1⟩
  replace K := Lib.hid (blk_gb b1 K.out ne.out)
  replace KR := Lib.hid (blk_gb b1 KR.out neB.out)
  replace h := Lib.hid h1
  replace T := T.trans (two_gb b1 gf)
  replace hb := Nat.le_trans hb b1.size
  clear h1 b1 N1
  go_simp
  refine wpSeq_yield (S := fun _ => True) (v := .pointer (some ⟨gf, 0, none⟩)) (Or.inl ⟨by rfl, fun w' hw' => by go_simp⟩) trivial ?_
  simp only [AP]
  refine wpSeq_yield (S := fun _ => True) (v := .pointer (some ⟨gf, 1, none⟩)) (Or.inl ⟨by rfl, fun w' hw' => by go_simp⟩) trivial ?_
  simp only [AP]
  have cs : W5.cell? ⟨gf, 1, none⟩ = some (.int .u64 0) := K.out.cell 1
  have fz := K.out.frozen 1
  refine wpSeq_wp rfl ?_
  unfold Oper.wp execOp
  go_simp
  have K2 : Blk (W5.setCell ⟨gf, 1, none⟩ (.int .u64 (z1 : Int))) gf 26 #[.int .u64 8, .int .u64 (z1 : Int), .int .u64 0, .int .u64 0, .int .u64 0, .bool false, .slice none 0 0, .slice none 0 0] := K.out.set 1 _
  have h2 := RM.far h.out K.out ne.out (nu8_at rfl) 1 (.int .u64 (z1 : Int))
  have KR2 := KR.out.far (p := ⟨gf, 1, none⟩) neR.out (.int .u64 (z1 : Int))
  have T2 := T.trans (Two.set_y W5 1 (.int .u64 (z1 : Int)))
  replace K := Lib.hid K2
  replace h := Lib.hid h2
  replace KR := Lib.hid KR2
  replace T := T2
  replace hb := Nat.le_trans hb (Two.set_y (x := B) (y := gf) W5 1 (.int .u64 (z1 : Int))).size
  clear cs fz K2 h2 KR2 T2
  generalize World.setCell _ _ _ = W6 at *
  refine wpSeq_nil ?_
  refine aK _ _ ?_
  clear aK
  go_upto_region 5 with fail
  rename_i aK
  refine wp_region_seq ?_
  refine wpSeq_yield (S := fun _ => True) (yieldsIf_move rfl _ rfl (.int .u64 14) rfl) trivial ?_
  simp only [AP]
  refine wpSeq_yield (S := fun _ => True) (v := .int .u64 4) (Or.inl ⟨by rfl, fun w' hw' => by (go_simp; try decide)⟩) trivial ?_
  simp only [AP]
  refine wpSeq_yield (S := fun _ => True) (v := .bool true) (Or.inl ⟨by rfl, fun w' hw' => by (go_simp; try decide)⟩) trivial ?_
  simp only [AP]
  refine wpSeq_nil ?_
  refine aK _ _ ?_
  clear aK
  go_upto_region 6 with fail
  rename_i aK
  refine wp_region_seq ?_
  refine wpSeq_yield (S := fun _ => True) (yieldsIf_move rfl _ rfl (.pointer (some ⟨gf, 0, none⟩)) rfl) trivial ?_
  simp only [AP]
  refine wpSeq_yield (S := fun _ => True) (v := .pointer (some ⟨W.heap.size, 0, none⟩)) (Or.inl ⟨by rfl, fun w' hw' => by go_simp⟩) trivial ?_
  simp only [AP]
  refine wpSeq_yield (S := fun w' => w' = W6) (v := .pointer p) (Or.inl ⟨by rfl, fun w' hw' => by (rw [hw']; have cc : W6.cell? ⟨W.heap.size, 0, none⟩ = some (.pointer p) := KR.out.cell 0; go_simp)⟩) rfl ?_
  simp only [AP]
  refine wpSeq_wp rfl ?_
  unfold Oper.wp execOp
  go_simp
  refine (N2.out _ h.out hb).mono ?_
  rintro _ W7 ⟨rfl, h1, b1⟩
  replace K := Lib.hid (blk_gb b1 K.out ne.out)
  replace KR := Lib.hid (blk_gb b1 KR.out neB.out)
  replace h := Lib.hid h1
  replace T := T.trans (two_gb b1 gf)
  replace hb := Nat.le_trans hb b1.size
  clear h1 b1 N2
  go_simp
  refine wpSeq_yield (S := fun _ => True) (v := .pointer (some ⟨gf, 0, none⟩)) (Or.inl ⟨by rfl, fun w' hw' => by go_simp⟩) trivial ?_
  simp only [AP]
  refine wpSeq_yield (S := fun _ => True) (v := .pointer (some ⟨gf, 2, none⟩)) (Or.inl ⟨by rfl, fun w' hw' => by go_simp⟩) trivial ?_
  simp only [AP]
  have cs : W7.cell? ⟨gf, 2, none⟩ = some (.int .u64 0) := K.out.cell 2
  have fz := K.out.frozen 2
  refine wpSeq_wp rfl ?_
  unfold Oper.wp execOp
  go_simp
  have K2 : Blk (W7.setCell ⟨gf, 2, none⟩ (.int .u64 0)) gf 26 #[.int .u64 8, .int .u64 (z1 : Int), .int .u64 0, .int .u64 0, .int .u64 0, .bool false, .slice none 0 0, .slice none 0 0] := K.out.set 2 _
  have h2 := RM.far h.out K.out ne.out (nu8_at rfl) 2 (.int .u64 0)
  have KR2 := KR.out.far (p := ⟨gf, 2, none⟩) neR.out (.int .u64 0)
  have T2 := T.trans (Two.set_y W7 2 (.int .u64 0))
  replace K := Lib.hid K2
  replace h := Lib.hid h2
  replace KR := Lib.hid KR2
  replace T := T2
  replace hb := Nat.le_trans hb (Two.set_y (x := B) (y := gf) W7 2 (.int .u64 0)).size
  clear cs fz K2 h2 KR2 T2
  generalize World.setCell _ _ _ = W8 at *
  refine wpSeq_nil ?_
  refine aK _ _ ?_
  clear aK
  go_upto_region 7 with fail
  rename_i aK
  refine wp_region_seq ?_
  refine wpSeq_yield (S := fun _ => True) (yieldsIf_move rfl _ rfl (.pointer (some ⟨gf, 0, none⟩)) rfl) trivial ?_
  simp only [AP]
  refine wpSeq_yield (S := fun _ => True) (v := .pointer (some ⟨gf, 0, none⟩)) (Or.inl ⟨by rfl, fun w' hw' => by go_simp⟩) trivial ?_
  simp only [AP]
  refine wpSeq_yield (S := fun _ => True) (v := .pointer (some ⟨gf, 2, none⟩)) (Or.inl ⟨by rfl, fun w' hw' => by go_simp⟩) trivial ?_
  simp only [AP]
  refine wpSeq_yield (S := fun w' => w' = W8) (v := .int .u64 0) (Or.inl ⟨by rfl, fun w' hw' => by (rw [hw']; have cc : W8.cell? ⟨gf, 2, none⟩ = some (.int .u64 0) := K.out.cell 2; go_simp)⟩) rfl ?_
  simp only [AP]
  refine wpSeq_yield (S := fun _ => True) (v := .bool true) (Or.inl ⟨by rfl, fun w' hw' => by go_simp⟩) trivial ?_
  simp only [AP]
  refine wpSeq_nil ?_
  refine aK _ _ ?_
  clear aK
  go_upto_region 8 with fail
  rename_i aK _ _ _
  refine wp_region_seq ?_
  refine wpSeq_yield (S := fun _ => True) (v := .pointer (some ⟨W.heap.size, 0, none⟩)) (Or.inl ⟨by rfl, fun w' hw' => by go_simp⟩) trivial ?_
  simp only [AP]
  refine wpSeq_yield (S := fun w' => w' = W8) (v := .pointer p) (Or.inl ⟨by rfl, fun w' hw' => by (rw [hw']; have cc : W8.cell? ⟨W.heap.size, 0, none⟩ = some (.pointer p) := KR.out.cell 0; go_simp)⟩) rfl ?_
  simp only [AP]
  refine wpSeq_wp rfl ?_
  unfold Oper.wp execOp
  go_simp
  refine (FL.out _ h.out hb).mono ?_
  rintro _ W9 ⟨⟨v, rfl⟩, h1, b1⟩
  replace K := Lib.hid (blk_gb b1 K.out ne.out)
  replace KR := Lib.hid (blk_gb b1 KR.out neB.out)
  replace h := Lib.hid h1
  replace T := T.trans (two_gb b1 gf)
  replace hb := Nat.le_trans hb b1.size
  clear h1 b1 FL
  go_simp
  refine wpSeq_nil ?_
  refine aK _ _ ?_
  clear aK
  go_upto_region 9 with fail
  rename_i aK
  refine wp_region_seq ?_
  refine wpSeq_yield (S := fun _ => True) (yieldsIf_move rfl _ rfl (.pointer (some ⟨gf, 0, none⟩)) rfl) trivial ?_
  simp only [AP]
  refine wpSeq_yield (S := fun w' => w' = W9) (show YieldsIf _ _ _ _ (.agg #[.pointer p]) _ from yieldsIf_load_mid (S := fun w' => w' = W9) rfl 58 _ rfl W.heap.size 0 rfl [.pointer p] _ (fun _ h => h ▸ blk_range KR.out) Try.underlying58 rfl info_rd) rfl ?_
  simp only [AP]
  have T0 := Nat.le_trans (Nat.le_refl _) T.size
  refine wpSeq_wp rfl ?_
  unfold Oper.wp execOp
  go_simp
  refine (DM.out _ h.out hb).mono ?_
  rintro _ W10 ⟨⟨v3, rfl, O3⟩, h1, b1⟩
  replace K := Lib.hid (blk_gb b1 K.out ne.out)
  replace KR := Lib.hid (blk_gb b1 KR.out neB.out)
  replace h := Lib.hid h1
  replace T := T.trans (two_gb b1 gf)
  replace hb := Nat.le_trans hb b1.size
  replace O3 := O3.mono T0
  clear h1 b1 DM
  go_simp
  obtain ⟨pv, cv, hv⟩ := O3.shape
  subst hv
  generalize hDn : D.length = dn at *
  replace hDn := Lib.hid hDn
  refine wpSeq_yield (S := fun _ => True) (v := .pointer (some ⟨gf, 0, none⟩)) (Or.inl ⟨by rfl, fun w' hw' => by go_simp⟩) trivial ?_
  simp only [AP]
  refine wpSeq_yield (S := fun _ => True) (v := .pointer (some ⟨gf, 6, none⟩)) (Or.inl ⟨by rfl, fun w' hw' => by go_simp⟩) trivial ?_
  simp only [AP]
  have cs : W10.cell? ⟨gf, 6, none⟩ = some (.slice none 0 0) := K.out.cell 6
  have fz := K.out.frozen 6
  refine wpSeq_wp rfl ?_
  unfold Oper.wp execOp
  go_simp
  have K2 : Blk (W10.setCell ⟨gf, 6, none⟩ (.slice pv dn cv)) gf 26 #[.int .u64 8, .int .u64 (z1 : Int), .int .u64 0, .int .u64 0, .int .u64 0, .bool false, .slice pv dn cv, .slice none 0 0] := K.out.set 6 _
  have h2 := RM.far h.out K.out ne.out (nu8_at rfl) 6 (.slice pv dn cv)
  have KR2 := KR.out.far (p := ⟨gf, 6, none⟩) neR.out (.slice pv dn cv)
  have T2 := T.trans (Two.set_y W10 6 (.slice pv dn cv))
  have O4 : OwL W.heap.size (W10.setCell ⟨gf, 6, none⟩ (.slice pv dn cv)) (.slice pv dn cv) D := O3.of_block fun g hg => Below.heap_setCell W10 _ _ g (by have := (O3.lt g hg).1; have := glt.out; show g ≠ gf; omega)
  clear O3
  replace K := Lib.hid K2
  replace h := Lib.hid h2
  replace KR := Lib.hid KR2
  replace T := T2
  replace hb := Nat.le_trans hb (Two.set_y (x := B) (y := gf) W10 6 (.slice pv dn cv)).size
  clear cs fz K2 h2 KR2 T2
  generalize World.setCell _ _ _ = W11 at *
  refine wpSeq_nil ?_
  go_wp2
  refine bodyPost_end (results_none rfl _ _ _) rfl ?_
  exact ⟨⟨_, rfl⟩, ⟨_, K.out, O4⟩, h.out, T⟩
set_option maxHeartbeats 8000000 in
set_option maxRecDepth 100000 in
theorem stream15z (B gf : Nat) (p : Option Addr) (l : List Nat) (c : Nat) (z1 : Nat) (l1 : List Nat) (c1 : Nat) (hz1 : numS l c = (z1, l1, c1)) (l2 : List Nat) (c2 : Nat) (hz2 : numS l1 c1 = (0, l2, c2)) (D ld : List Nat) (cd : Nat) (hD : dataS l2 (failS c2 5) = (D, ld, cd)) (W : World) (h : RM B W p l c) (hB : B ≤ W.heap.size) (K : Blk W gf 26 #[.int .u64 15, .int .u64 0, .int .u64 0, .int .u64 0, .int .u64 0, .bool false, .slice none 0 0, .slice none 0 0]) (ne : gf ≠ B) :
    Calls Try.prog 42 #[.agg #[.pointer p], .pointer (some ⟨gf, 0, none⟩)] W fun e w' => (∃ v, e = .returned v) ∧ (∃ vd, Blk w' gf 26 #[.int .u64 8, .int .u64 (z1 : Int), .int .u64 0, .int .u64 0, .int .u64 0, .bool true, vd, .slice none 0 0] ∧ OwL W.heap.size w' vd D) ∧ RM B w' p ld cd ∧ Two B gf W w' := by
  have N1 := Lib.hid (fun w h hB => num_m B p l c w h hB)
  rw [hz1] at N1
  have N2 := Lib.hid (fun w h hB => num_m B p l1 c1 w h hB)
  rw [hz2] at N2
  have FL := Lib.hid (fun w h hB => fail_m B p l2 c2 5 w h hB)
  rw [failS_eq] at FL
  have DM := Lib.hid (fun w h hB => data_m B p l2 (failS c2 5) w h hB)
  rw [hD] at DM
  dsimp only at N1 N2 DM
  clear hz1 hz2 hD
  have hlt : B < W.heap.size := by
    obtain ⟨g, pb, cb, _, hg, KB, _⟩ := h
    have := KB.lt
    omega
  have neB := Lib.hid (show W.heap.size ≠ B by omega)
  have neR := Lib.hid (show W.heap.size ≠ gf by have := K.lt; omega)
  have glt := Lib.hid K.lt
  replace ne := Lib.hid ne
  clear hlt
  go_enter Try.func42, Try.ntmps42
  go_upto_region 0 with fail
  rename_i aK
  refine wp_region_seq ?_
  refine wpSeq_wp rfl ?_
  unfold Oper.wp execOp
  go_simp
  refine wpSeq_nil ?_
  refine aK _ _ ?_
  clear aK
  have b0 := (Below.refl W.heap.size W).alloc (Nat.le_refl _) (.cells #[.pointer p] 58)
  have KR := Lib.hid (Blk.new W 58 #[.pointer p])
  replace K := Lib.hid (K.below' b0)
  replace h := Lib.hid (h.below b0)
  generalize World.alloc W _ = W2 at *
  have T := Two.of b0 (x := B) (y := gf)
  have hb := Nat.le_trans hB b0.size
  have hs0 := b0.size
  clear b0 hB
  go_upto_region 1 with fail
  rename_i aK
  refine wp_region_seq ?_
  refine wpSeq_yield (S := fun _ => True) (yieldsIf_move rfl _ rfl (.pointer (some ⟨gf, 0, none⟩)) rfl) trivial ?_
  simp only [AP]
  refine wpSeq_yield (S := fun _ => True) (v := .pointer (some ⟨gf, 0, none⟩)) (Or.inl ⟨by rfl, fun w' hw' => by go_simp⟩) trivial ?_
  simp only [AP]
  refine wpSeq_yield (S := fun _ => True) (v := .pointer (some ⟨gf, 0, none⟩)) (Or.inl ⟨by rfl, fun w' hw' => by go_simp⟩) trivial ?_
  simp only [AP]
  refine wpSeq_yield (S := fun w' => w' = W2) (v := .int .u64 15) (Or.inl ⟨by rfl, fun w' hw' => by (rw [hw']; have cc : W2.cell? ⟨gf, 0, none⟩ = some (.int .u64 15) := K.out.cell 0; go_simp)⟩) rfl ?_
  simp only [AP]
  refine wpSeq_yield (S := fun _ => True) (yieldsIf_assign rfl _ rfl (.int .u64 15) rfl) trivial ?_
  simp only [AP]
  refine wpSeq_nil ?_
  refine aK _ _ ?_
  clear aK
  go_upto_region 2 with fail
  rename_i aK
  refine wp_region_seq ?_
  refine wpSeq_yield (S := fun _ => True) (yieldsIf_move rfl _ rfl (.pointer (some ⟨gf, 0, none⟩)) rfl) trivial ?_
  simp only [AP]
  refine wpSeq_yield (S := fun _ => True) (v := .pointer (some ⟨gf, 0, none⟩)) (Or.inl ⟨by rfl, fun w' hw' => by go_simp⟩) trivial ?_
  simp only [AP]
  refine wpSeq_yield (S := fun _ => True) (v := .pointer (some ⟨gf, 0, none⟩)) (Or.inl ⟨by rfl, fun w' hw' => by go_simp⟩) trivial ?_
  simp only [AP]
  have cs : W2.cell? ⟨gf, 0, none⟩ = some (.int .u64 15) := K.out.cell 0
  have fz := K.out.frozen 0
  refine wpSeq_wp rfl ?_
  unfold Oper.wp execOp
  go_simp
  have K2 : Blk (W2.setCell ⟨gf, 0, none⟩ (.int .u64 8)) gf 26 #[.int .u64 8, .int .u64 0, .int .u64 0, .int .u64 0, .int .u64 0, .bool false, .slice none 0 0, .slice none 0 0] := K.out.set 0 _
  have h2 := RM.far h.out K.out ne.out (nu8_at rfl) 0 (.int .u64 8)
  have KR2 := KR.out.far (p := ⟨gf, 0, none⟩) neR.out (.int .u64 8)
  have T2 := T.trans (Two.set_y W2 0 (.int .u64 8))
  replace K := Lib.hid K2
  replace h := Lib.hid h2
  replace KR := Lib.hid KR2
  replace T := T2
  replace hb := Nat.le_trans hb (Two.set_y (x := B) (y := gf) W2 0 (.int .u64 8)).size
  clear cs fz K2 h2 KR2 T2
  generalize World.setCell _ _ _ = W3 at *
  refine wpSeq_nil ?_
  refine aK _ _ ?_
  clear aK
  go_upto_region 3 with fail
  rename_i aK
  refine wp_region_seq ?_
  refine wpSeq_yield (S := fun _ => True) (yieldsIf_move rfl _ rfl (.pointer (some ⟨gf, 0, none⟩)) rfl) trivial ?_
  simp only [AP]
  refine wpSeq_yield (S := fun _ => True) (yieldsIf_move rfl _ rfl (.int .u64 15) rfl) trivial ?_
  simp only [AP]
  refine wpSeq_yield (S := fun _ => True) (v := .int .u64 1) (Or.inl ⟨by rfl, fun w' hw' => by (go_simp; try decide)⟩) trivial ?_
  simp only [AP]
  refine wpSeq_yield (S := fun _ => True) (v := .bool true) (Or.inl ⟨by rfl, fun w' hw' => by (go_simp; try decide)⟩) trivial ?_
  simp only [AP]
  refine wpSeq_yield (S := fun _ => True) (v := .pointer (some ⟨gf, 0, none⟩)) (Or.inl ⟨by rfl, fun w' hw' => by go_simp⟩) trivial ?_
  simp only [AP]
  refine wpSeq_yield (S := fun _ => True) (v := .pointer (some ⟨gf, 5, none⟩)) (Or.inl ⟨by rfl, fun w' hw' => by go_simp⟩) trivial ?_
  simp only [AP]
  have cs : W3.cell? ⟨gf, 5, none⟩ = some (.bool false) := K.out.cell 5
  have fz := K.out.frozen 5
  refine wpSeq_wp rfl ?_
  unfold Oper.wp execOp
  go_simp
  have K2 : Blk (W3.setCell ⟨gf, 5, none⟩ (.bool true)) gf 26 #[.int .u64 8, .int .u64 0, .int .u64 0, .int .u64 0, .int .u64 0, .bool true, .slice none 0 0, .slice none 0 0] := K.out.set 5 _
  have h2 := RM.far h.out K.out ne.out (nu8_at rfl) 5 (.bool true)
  have KR2 := KR.out.far (p := ⟨gf, 5, none⟩) neR.out (.bool true)
  have T2 := T.trans (Two.set_y W3 5 (.bool true))
  replace K := Lib.hid K2
  replace h := Lib.hid h2
  replace KR := Lib.hid KR2
  replace T := T2
  replace hb := Nat.le_trans hb (Two.set_y (x := B) (y := gf) W3 5 (.bool true)).size
  clear cs fz K2 h2 KR2 T2
  generalize World.setCell _ _ _ = W4 at *
  refine wpSeq_nil ?_
  refine aK _ _ ?_
  clear aK
  go_upto_region 4 with fail
  rename_i aK
  refine wp_region_seq ?_
  refine wpSeq_yield (S := fun _ => True) (yieldsIf_move rfl _ rfl (.pointer (some ⟨gf, 0, none⟩)) rfl) trivial ?_
  simp only [AP]
  refine wpSeq_yield (S := fun _ => True) (v := .pointer (some ⟨W.heap.size, 0, none⟩)) (Or.inl ⟨by rfl, fun w' hw' => by go_simp⟩) trivial ?_
  simp only [AP]
  refine wpSeq_yield (S := fun w' => w' = W4) (v := .pointer p) (Or.inl ⟨by rfl, fun w' hw' => by (rw [hw']; have cc : W4.cell? ⟨W.heap.size, 0, none⟩ = some (.pointer p) := KR.out.cell 0; go_simp)⟩) rfl ?_
  simp only [AP]
  refine wpSeq_wp rfl ?_
  unfold Oper.wp execOp
  go_simp
  refine (N1.out _ h.out hb).mono ?_
  rintro _ W5 ⟨rfl, h1, b1⟩
  replace K := Lib.hid (blk_gb b1 K.out ne.out)
  replace KR := Lib.hid (blk_gb b1 KR.out neB.out)
  replace h := Lib.hid h1
  replace T := T.trans (two_gb b1 gf)
  replace hb := Nat.le_trans hb b1.size
  clear h1 b1 N1
  go_simp
  refine wpSeq_yield (S := fun _ => True) (v := .pointer (some ⟨gf, 0, none⟩)) (Or.inl ⟨by rfl, fun w' hw' => by go_simp⟩) trivial ?_
  simp only [AP]
  refine wpSeq_yield (S := fun _ => True) (v := .pointer (some ⟨gf, 1, none⟩)) (Or.inl ⟨by rfl, fun w' hw' => by go_simp⟩) trivial ?_
  simp only [AP]
  have cs : W5.cell? ⟨gf, 1, none⟩ = some (.int .u64 0) := K.out.cell 1
  have fz := K.out.frozen 1
  refine wpSeq_wp rfl ?_
  unfold Oper.wp execOp
  go_simp
  have K2 : Blk (W5.setCell ⟨gf, 1, none⟩ (.int .u64 (z1 : Int))) gf 26 #[.int .u64 8, .int .u64 (z1 : Int), .int .u64 0, .int .u64 0, .int .u64 0, .bool true, .slice none 0 0, .slice none 0 0] := K.out.set 1 _
  have h2 := RM.far h.out K.out ne.out (nu8_at rfl) 1 (.int .u64 (z1 : Int))
  have KR2 := KR.out.far (p := ⟨gf, 1, none⟩) neR.out (.int .u64 (z1 : Int))
  have T2 := T.trans (Two.set_y W5 1 (.int .u64 (z1 : Int)))
  replace K := Lib.hid K2
  replace h := Lib.hid h2
  replace KR := Lib.hid KR2
  replace T := T2
  replace hb := Nat.le_trans hb (Two.set_y (x := B) (y := gf) W5 1 (.int .u64 (z1 : Int))).size
  clear cs fz K2 h2 KR2 T2
  generalize World.setCell _ _ _ = W6 at *
  refine wpSeq_nil ?_
  refine aK _ _ ?_
  clear aK
  go_upto_region 5 with fail
  rename_i aK
  refine wp_region_seq ?_
  refine wpSeq_yield (S := fun _ => True) (yieldsIf_move rfl _ rfl (.int .u64 15) rfl) trivial ?_
  simp only [AP]
  refine wpSeq_yield (S := fun _ => True) (v := .int .u64 4) (Or.inl ⟨by rfl, fun w' hw' => by (go_simp; try decide)⟩) trivial ?_
  simp only [AP]
  refine wpSeq_yield (S := fun _ => True) (v := .bool true) (Or.inl ⟨by rfl, fun w' hw' => by (go_simp; try decide)⟩) trivial ?_
  simp only [AP]
  refine wpSeq_nil ?_
  refine aK _ _ ?_
  clear aK
  go_upto_region 6 with fail
  rename_i aK
  refine wp_region_seq ?_
  refine wpSeq_yield (S := fun _ => True) (yieldsIf_move rfl _ rfl (.pointer (some ⟨gf, 0, none⟩)) rfl) trivial ?_
  simp only [AP]
  refine wpSeq_yield (S := fun _ => True) (v := .pointer (some ⟨W.heap.size, 0, none⟩)) (Or.inl ⟨by rfl, fun w' hw' => by go_simp⟩) trivial ?_
  simp only [AP]
  refine wpSeq_yield (S := fun w' => w' = W6) (v := .pointer p) (Or.inl ⟨by rfl, fun w' hw' => by (rw [hw']; have cc : W6.cell? ⟨W.heap.size, 0, none⟩ = some (.pointer p) := KR.out.cell 0; go_simp)⟩) rfl ?_
  simp only [AP]
  refine wpSeq_wp rfl ?_
  unfold Oper.wp execOp
  go_simp
  refine (N2.out _ h.out hb).mono ?_
  rintro _ W7 ⟨rfl, h1, b1⟩
  replace K := Lib.hid (blk_gb b1 K.out ne.out)
  replace KR := Lib.hid (blk_gb b1 KR.out neB.out)
  replace h := Lib.hid h1
  replace T := T.trans (two_gb b1 gf)
  replace hb := Nat.le_trans hb b1.size
  clear h1 b1 N2
  go_simp
  refine wpSeq_yield (S := fun _ => True) (v := .pointer (some ⟨gf, 0, none⟩)) (Or.inl ⟨by rfl, fun w' hw' => by go_simp⟩) trivial ?_
  simp only [AP]
  refine wpSeq_yield (S := fun _ => True) (v := .pointer (some ⟨gf, 2, none⟩)) (Or.inl ⟨by rfl, fun w' hw' => by go_simp⟩) trivial ?_
  simp only [AP]
  have cs : W7.cell? ⟨gf, 2, none⟩ = some (.int .u64 0) := K.out.cell 2
  have fz := K.out.frozen 2
  refine wpSeq_wp rfl ?_
  unfold Oper.wp execOp
  go_simp
  have K2 : Blk (W7.setCell ⟨gf, 2, none⟩ (.int .u64 0)) gf 26 #[.int .u64 8, .int .u64 (z1 : Int), .int .u64 0, .int .u64 0, .int .u64 0, .bool true, .slice none 0 0, .slice none 0 0] := K.out.set 2 _
  have h2 := RM.far h.out K.out ne.out (nu8_at rfl) 2 (.int .u64 0)
  have KR2 := KR.out.far (p := ⟨gf, 2, none⟩) neR.out (.int .u64 0)
  have T2 := T.trans (Two.set_y W7 2 (.int .u64 0))
  replace K := Lib.hid K2
  replace h := Lib.hid h2
  replace KR := Lib.hid KR2
  replace T := T2
  replace hb := Nat.le_trans hb (Two.set_y (x := B) (y := gf) W7 2 (.int .u64 0)).size
  clear cs fz K2 h2 KR2 T2
  generalize World.setCell _ _ _ = W8 at *
  refine wpSeq_nil ?_
  refine aK _ _ ?_
  clear aK
  go_upto_region 7 with fail
  rename_i aK
  refine wp_region_seq ?_
  refine wpSeq_yield (S := fun _ => True) (yieldsIf_move rfl _ rfl (.pointer (some ⟨gf, 0, none⟩)) rfl) trivial ?_
  simp only [AP]
  refine wpSeq_yield (S := fun _ => True) (v := .pointer (some ⟨gf, 0, none⟩)) (Or.inl ⟨by rfl, fun w' hw' => by go_simp⟩) trivial ?_
  simp only [AP]
  refine wpSeq_yield (S := fun _ => True) (v := .pointer (some ⟨gf, 2, none⟩)) (Or.inl ⟨by rfl, fun w' hw' => by go_simp⟩) trivial ?_
  simp only [AP]
  refine wpSeq_yield (S := fun w' => w' = W8) (v := .int .u64 0) (Or.inl ⟨by rfl, fun w' hw' => by (rw [hw']; have cc : W8.cell? ⟨gf, 2, none⟩ = some (.int .u64 0) := K.out.cell 2; go_simp)⟩) rfl ?_
  simp only [AP]
  refine wpSeq_yield (S := fun _ => True) (v := .bool true) (Or.inl ⟨by rfl, fun w' hw' => by go_simp⟩) trivial ?_
  simp only [AP]
  refine wpSeq_nil ?_
  refine aK _ _ ?_
  clear aK
  go_upto_region 8 with fail
  rename_i aK _ _ _
  refine wp_region_seq ?_
  refine wpSeq_yield (S := fun _ => True) (v := .pointer (some ⟨W.heap.size, 0, none⟩)) (Or.inl ⟨by rfl, fun w' hw' => by go_simp⟩) trivial ?_
  simp only [AP]
  refine wpSeq_yield (S := fun w' => w' = W8) (v := .pointer p) (Or.inl ⟨by rfl, fun w' hw' => by (rw [hw']; have cc : W8.cell? ⟨W.heap.size, 0, none⟩ = some (.pointer p) := KR.out.cell 0; go_simp)⟩) rfl ?_
  simp only [AP]
  refine wpSeq_wp rfl ?_
  unfold Oper.wp execOp
  go_simp
  refine (FL.out _ h.out hb).mono ?_
  rintro _ W9 ⟨⟨v, rfl⟩, h1, b1⟩
  replace K := Lib.hid (blk_gb b1 K.out ne.out)
  replace KR := Lib.hid (blk_gb b1 KR.out neB.out)
  replace h := Lib.hid h1
  replace T := T.trans (two_gb b1 gf)
  replace hb := Nat.le_trans hb b1.size
  clear h1 b1 FL
  go_simp
  refine wpSeq_nil ?_
  refine aK _ _ ?_
  clear aK
  go_upto_region 9 with fail
  rename_i aK
  refine wp_region_seq ?_
  refine wpSeq_yield (S := fun _ => True) (yieldsIf_move rfl _ rfl (.pointer (some ⟨gf, 0, none⟩)) rfl) trivial ?_
  simp only [AP]
  refine wpSeq_yield (S := fun w' => w' = W9) (show YieldsIf _ _ _ _ (.agg #[.pointer p]) _ from yieldsIf_load_mid (S := fun w' => w' = W9) rfl 58 _ rfl W.heap.size 0 rfl [.pointer p] _ (fun _ h => h ▸ blk_range KR.out) Try.underlying58 rfl info_rd) rfl ?_
  simp only [AP]
  have T0 := Nat.le_trans (Nat.le_refl _) T.size
  refine wpSeq_wp rfl ?_
  unfold Oper.wp execOp
  go_simp
  refine (DM.out _ h.out hb).mono ?_
  rintro _ W10 ⟨⟨v3, rfl, O3⟩, h1, b1⟩
  replace K := Lib.hid (blk_gb b1 K.out ne.out)
  replace KR := Lib.hid (blk_gb b1 KR.out neB.out)
  replace h := Lib.hid h1
  replace T := T.trans (two_gb b1 gf)
  replace hb := Nat.le_trans hb b1.size
  replace O3 := O3.mono T0
  clear h1 b1 DM
  go_simp
  obtain ⟨pv, cv, hv⟩ := O3.shape
  subst hv
  generalize hDn : D.length = dn at *
  replace hDn := Lib.hid hDn
  refine wpSeq_yield (S := fun _ => True) (v := .pointer (some ⟨gf, 0, none⟩)) (Or.inl ⟨by rfl, fun w' hw' => by go_simp⟩) trivial ?_
  simp only [AP]
  refine wpSeq_yield (S := fun _ => True) (v := .pointer (some ⟨gf, 6, none⟩)) (Or.inl ⟨by rfl, fun w' hw' => by go_simp⟩) trivial ?_
  simp only [AP]
  have cs : W10.cell? ⟨gf, 6, none⟩ = some (.slice none 0 0) := K.out.cell 6
  have fz := K.out.frozen 6
  refine wpSeq_wp rfl ?_
  unfold Oper.wp execOp
  go_simp
  have K2 : Blk (W10.setCell ⟨gf, 6, none⟩ (.slice pv dn cv)) gf 26 #[.int .u64 8, .int .u64 (z1 : Int), .int .u64 0, .int .u64 0, .int .u64 0, .bool true, .slice pv dn cv, .slice none 0 0] := K.out.set 6 _
  have h2 := RM.far h.out K.out ne.out (nu8_at rfl) 6 (.slice pv dn cv)
  have KR2 := KR.out.far (p := ⟨gf, 6, none⟩) neR.out (.slice pv dn cv)
  have T2 := T.trans (Two.set_y W10 6 (.slice pv dn cv))
  have O4 : OwL W.heap.size (W10.setCell ⟨gf, 6, none⟩ (.slice pv dn cv)) (.slice pv dn cv) D := O3.of_block fun g hg => Below.heap_setCell W10 _ _ g (by have := (O3.lt g hg).1; have := glt.out; show g ≠ gf; omega)
  clear O3
  replace K := Lib.hid K2
  replace h := Lib.hid h2
  replace KR := Lib.hid KR2
  replace T := T2
  replace hb := Nat.le_trans hb (Two.set_y (x := B) (y := gf) W10 6 (.slice pv dn cv)).size
  clear cs fz K2 h2 KR2 T2
  generalize World.setCell _ _ _ = W11 at *
  refine wpSeq_nil ?_
  go_wp2
  refine bodyPost_end (results_none rfl _ _ _) rfl ?_
  exact ⟨⟨_, rfl⟩, ⟨_, K.out, O4⟩, h.out, T⟩
set_option maxHeartbeats 8000000 in
set_option maxRecDepth 100000 in
theorem stream14 (B gf : Nat) (p : Option Addr) (l : List Nat) (c : Nat) (z1 : Nat) (l1 : List Nat) (c1 : Nat) (hz1 : numS l c = (z1, l1, c1)) (z2 : Nat) (l2 : List Nat) (c2 : Nat) (hz2 : numS l1 c1 = (z2, l2, c2)) (h2 : z2 ≠ 0) (D ld : List Nat) (cd : Nat) (hD : dataS l2 c2 = (D, ld, cd)) (W : World) (h : RM B W p l c) (hB : B ≤ W.heap.size) (K : Blk W gf 26 #[.int .u64 14, .int .u64 0, .int .u64 0, .int .u64 0, .int .u64 0, .bool false, .slice none 0 0, .slice none 0 0]) (ne : gf ≠ B) :
    Calls Try.prog 42 #[.agg #[.pointer p], .pointer (some ⟨gf, 0, none⟩)] W fun e w' => (∃ v, e = .returned v) ∧ (∃ vd, Blk w' gf 26 #[.int .u64 8, .int .u64 (z1 : Int), .int .u64 (z2 : Int), .int .u64 0, .int .u64 0, .bool false, vd, .slice none 0 0] ∧ OwL W.heap.size w' vd D) ∧ RM B w' p ld cd ∧ Two B gf W w' := by
  have N1 := Lib.hid (fun w h hB => num_m B p l c w h hB)
  rw [hz1] at N1
  have N2 := Lib.hid (fun w h hB => num_m B p l1 c1 w h hB)
  rw [hz2] at N2
  have g2 : ((z2 : Int) == 0) = false := beq_eq_false_iff_ne.2 (by omega)
  have DM := Lib.hid (fun w h hB => data_m B p l2 c2 w h hB)
  rw [hD] at DM
  dsimp only at N1 N2 DM
  clear hz1 hz2 h2 hD
  have hlt : B < W.heap.size := by
    obtain ⟨g, pb, cb, _, hg, KB, _⟩ := h
    have := KB.lt
    omega
  have neB := Lib.hid (show W.heap.size ≠ B by omega)
  have neR := Lib.hid (show W.heap.size ≠ gf by have := K.lt; omega)
  have glt := Lib.hid K.lt
  replace ne := Lib.hid ne
  clear hlt
  go_enter Try.func42, Try.ntmps42
  go_upto_region 0 with fail
  rename_i aK
  refine wp_region_seq ?_
  refine wpSeq_wp rfl ?_
  unfold Oper.wp execOp
  go_simp
  refine wpSeq_nil ?_
  refine aK _ _ ?_
  clear aK
  have b0 := (Below.refl W.heap.size W).alloc (Nat.le_refl _) (.cells #[.pointer p] 58)
  have KR := Lib.hid (Blk.new W 58 #[.pointer p])
  replace K := Lib.hid (K.below' b0)
  replace h := Lib.hid (h.below b0)
  generalize World.alloc W _ = W2 at *
  have T := Two.of b0 (x := B) (y := gf)
  have hb := Nat.le_trans hB b0.size
  have hs0 := b0.size
  clear b0 hB
  go_upto_region 1 with fail
  rename_i aK
  refine wp_region_seq ?_
  refine wpSeq_yield (S := fun _ => True) (yieldsIf_move rfl _ rfl (.pointer (some ⟨gf, 0, none⟩)) rfl) trivial ?_
  simp only [AP]
  refine wpSeq_yield (S := fun _ => True) (v := .pointer (some ⟨gf, 0, none⟩)) (Or.inl ⟨by rfl, fun w' hw' => by go_simp⟩) trivial ?_
  simp only [AP]
  refine wpSeq_yield (S := fun _ => True) (v := .pointer (some ⟨gf, 0, none⟩)) (Or.inl ⟨by rfl, fun w' hw' => by go_simp⟩) trivial ?_
  simp only [AP]
  refine wpSeq_yield (S := fun w' => w' = W2) (v := .int .u64 14) (Or.inl ⟨by rfl, fun w' hw' => by (rw [hw']; have cc : W2.cell? ⟨gf, 0, none⟩ = some (.int .u64 14) := K.out.cell 0; go_simp)⟩) rfl ?_
  simp only [AP]
  refine wpSeq_yield (S := fun _ => True) (yieldsIf_assign rfl _ rfl (.int .u64 14) rfl) trivial ?_
  simp only [AP]
  refine wpSeq_nil ?_
  refine aK _ _ ?_
  clear aK
  go_upto_region 2 with fail
  rename_i aK
  refine wp_region_seq ?_
  refine wpSeq_yield (S := fun _ => True) (yieldsIf_move rfl _ rfl (.pointer (some ⟨gf, 0, none⟩)) rfl) trivial ?_
  simp only [AP]
  refine wpSeq_yield (S := fun _ => True) (v := .pointer (some ⟨gf, 0, none⟩)) (Or.inl ⟨by rfl, fun w' hw' => by go_simp⟩) trivial ?_
  simp only [AP]
  refine wpSeq_yield (S := fun _ => True) (v := .pointer (some ⟨gf, 0, none⟩)) (Or.inl ⟨by rfl, fun w' hw' => by go_simp⟩) trivial ?_
  simp only [AP]
  have cs : W2.cell? ⟨gf, 0, none⟩ = some (.int .u64 14) := K.out.cell 0
  have fz := K.out.frozen 0
  refine wpSeq_wp rfl ?_
  unfold Oper.wp execOp
  go_simp
  have K2 : Blk (W2.setCell ⟨gf, 0, none⟩ (.int .u64 8)) gf 26 #[.int .u64 8, .int .u64 0, .int .u64 0, .int .u64 0, .int .u64 0, .bool false, .slice none 0 0, .slice none 0 0] := K.out.set 0 _
  have h2 := RM.far h.out K.out ne.out (nu8_at rfl) 0 (.int .u64 8)
  have KR2 := KR.out.far (p := ⟨gf, 0, none⟩) neR.out (.int .u64 8)
  have T2 := T.trans (Two.set_y W2 0 (.int .u64 8))
  replace K := Lib.hid K2
  replace h := Lib.hid h2
  replace KR := Lib.hid KR2
  replace T := T2
  replace hb := Nat.le_trans hb (Two.set_y (x := B) (y := gf) W2 0 (.int .u64 8)).size
  clear cs fz K2 h2 KR2 T2
  generalize World.setCell _ _ _ = W3 at *
  refine wpSeq_nil ?_
  refine aK _ _ ?_
  clear aK
  go_upto_region 3 with fail
  rename_i aK
  refine wp_region_seq ?_
  refine wpSeq_yield (S := fun _ => True) (yieldsIf_move rfl _ rfl (.pointer (some ⟨gf, 0, none⟩)) rfl) trivial ?_
  simp only [AP]
  refine wpSeq_yield (S := fun _ => True) (yieldsIf_move rfl _ rfl (.int .u64 14) rfl) trivial ?_
  simp only [AP]
  refine wpSeq_yield (S := fun _ => True) (v := .int .u64 0) (Or.inl ⟨by rfl, fun w' hw' => by (go_simp; try decide)⟩) trivial ?_
  simp only [AP]
  refine wpSeq_yield (S := fun _ => True) (v := .bool false) (Or.inl ⟨by rfl, fun w' hw' => by (go_simp; try decide)⟩) trivial ?_
  simp only [AP]
  refine wpSeq_yield (S := fun _ => True) (v := .pointer (some ⟨gf, 0, none⟩)) (Or.inl ⟨by rfl, fun w' hw' => by go_simp⟩) trivial ?_
  simp only [AP]
  refine wpSeq_yield (S := fun _ => True) (v := .pointer (some ⟨gf, 5, none⟩)) (Or.inl ⟨by rfl, fun w' hw' => by go_simp⟩) trivial ?_
  simp only [AP]
  have cs : W3.cell? ⟨gf, 5, none⟩ = some (.bool false) := K.out.cell 5
  have fz := K.out.frozen 5
  refine wpSeq_wp rfl ?_
  unfold Oper.wp execOp
  go_simp
  have K2 : Blk (W3.setCell ⟨gf, 5, none⟩ (.bool false)) gf 26 #[.int .u64 8, .int .u64 0, .int .u64 0, .int .u64 0, .int .u64 0, .bool false, .slice none 0 0, .slice none 0 0] := K.out.set 5 _
  have h2 := RM.far h.out K.out ne.out (nu8_at rfl) 5 (.bool false)
  have KR2 := KR.out.far (p := ⟨gf, 5, none⟩) neR.out (.bool false)
  have T2 := T.trans (Two.set_y W3 5 (.bool false))
  replace K := Lib.hid K2
  replace h := Lib.hid h2
  replace KR := Lib.hid KR2
  replace T := T2
  replace hb := Nat.le_trans hb (Two.set_y (x := B) (y := gf) W3 5 (.bool false)).size
  clear cs fz K2 h2 KR2 T2
  generalize World.setCell _ _ _ = W4 at *
  refine wpSeq_nil ?_
  refine aK _ _ ?_
  clear aK
  go_upto_region 4 with fail
  rename_i aK
  refine wp_region_seq ?_
  refine wpSeq_yield (S := fun _ => True) (yieldsIf_move rfl _ rfl (.pointer (some ⟨gf, 0, none⟩)) rfl) trivial ?_
  simp only [AP]
  refine wpSeq_yield (S := fun _ => True) (v := .pointer (some ⟨W.heap.size, 0, none⟩)) (Or.inl ⟨by rfl, fun w' hw' => by go_simp⟩) trivial ?_
  simp only [AP]
  refine wpSeq_yield (S := fun w' => w' = W4) (v := .pointer p) (Or.inl ⟨by rfl, fun w' hw' => by (rw [hw']; have cc : W4.cell? ⟨W.heap.size, 0, none⟩ = some (.pointer p) := KR.out.cell 0; go_simp)⟩) rfl ?_
  simp only [AP]
  refine wpSeq_wp rfl ?_
  unfold Oper.wp execOp
  go_simp
  refine (N1.out _ h.out hb).mono ?_
  rintro _ W5 ⟨rfl, h1, b1⟩
  replace K := Lib.hid (blk_gb b1 K.out ne.out)
  replace KR := Lib.hid (blk_gb b1 KR.out neB.out)
  replace h := Lib.hid h1
  replace T := T.trans (two_gb b1 gf)
  replace hb := Nat.le_trans hb b1.size
  clear h1 b1 N1
  go_simp
  refine wpSeq_yield (S := fun _ => True) (v := .pointer (some ⟨gf, 0, none⟩)) (Or.inl ⟨by rfl, fun w' hw' => by go_simp⟩) trivial ?_
  simp only [AP]
  refine wpSeq_yield (S := fun _ => True) (v := .pointer (some ⟨gf, 1, none⟩)) (Or.inl ⟨by rfl, fun w' hw' => by go_simp⟩) trivial ?_
  simp only [AP]
  have cs : W5.cell? ⟨gf, 1, none⟩ = some (.int .u64 0) := K.out.cell 1
  have fz := K.out.frozen 1
  refine wpSeq_wp rfl ?_
  unfold Oper.wp execOp
  go_simp
  have K2 : Blk (W5.setCell ⟨gf, 1, none⟩ (.int .u64 (z1 : Int))) gf 26 #[.int .u64 8, .int .u64 (z1 : Int), .int .u64 0, .int .u64 0, .int .u64 0, .bool false, .slice none 0 0, .slice none 0 0] := K.out.set 1 _
  have h2 := RM.far h.out K.out ne.out (nu8_at rfl) 1 (.int .u64 (z1 : Int))
  have KR2 := KR.out.far (p := ⟨gf, 1, none⟩) neR.out (.int .u64 (z1 : Int))
  have T2 := T.trans (Two.set_y W5 1 (.int .u64 (z1 : Int)))
  replace K := Lib.hid K2
  replace h := Lib.hid h2
  replace KR := Lib.hid KR2
  replace T := T2
  replace hb := Nat.le_trans hb (Two.set_y (x := B) (y := gf) W5 1 (.int .u64 (z1 : Int))).size
  clear cs fz K2 h2 KR2 T2
  generalize World.setCell _ _ _ = W6 at *
  refine wpSeq_nil ?_
  refine aK _ _ ?_
  clear aK
  go_upto_region 5 with fail
  rename_i aK
  refine wp_region_seq ?_
  refine wpSeq_yield (S := fun _ => True) (yieldsIf_move rfl _ rfl (.int .u64 14) rfl) trivial ?_
  simp only [AP]
  refine wpSeq_yield (S := fun _ => True) (v := .int .u64 4) (Or.inl ⟨by rfl, fun w' hw' => by (go_simp; try decide)⟩) trivial ?_
  simp only [AP]
  refine wpSeq_yield (S := fun _ => True) (v := .bool true) (Or.inl ⟨by rfl, fun w' hw' => by (go_simp; try decide)⟩) trivial ?_
  simp only [AP]
  refine wpSeq_nil ?_
  refine aK _ _ ?_
  clear aK
  go_upto_region 6 with fail
  rename_i aK
  refine wp_region_seq ?_
  refine wpSeq_yield (S := fun _ => True) (yieldsIf_move rfl _ rfl (.pointer (some ⟨gf, 0, none⟩)) rfl) trivial ?_
  simp only [AP]
  refine wpSeq_yield (S := fun _ => True) (v := .pointer (some ⟨W.heap.size, 0, none⟩)) (Or.inl ⟨by rfl, fun w' hw' => by go_simp⟩) trivial ?_
  simp only [AP]
  refine wpSeq_yield (S := fun w' => w' = W6) (v := .pointer p) (Or.inl ⟨by rfl, fun w' hw' => by (rw [hw']; have cc : W6.cell? ⟨W.heap.size, 0, none⟩ = some (.pointer p) := KR.out.cell 0; go_simp)⟩) rfl ?_
  simp only [AP]
  refine wpSeq_wp rfl ?_
  unfold Oper.wp execOp
  go_simp
  refine (N2.out _ h.out hb).mono ?_
  rintro _ W7 ⟨rfl, h1, b1⟩
  replace K := Lib.hid (blk_gb b1 K.out ne.out)
  replace KR := Lib.hid (blk_gb b1 KR.out neB.out)
  replace h := Lib.hid h1
  replace T := T.trans (two_gb b1 gf)
  replace hb := Nat.le_trans hb b1.size
  clear h1 b1 N2
  go_simp
  refine wpSeq_yield (S := fun _ => True) (v := .pointer (some ⟨gf, 0, none⟩)) (Or.inl ⟨by rfl, fun w' hw' => by go_simp⟩) trivial ?_
  simp only [AP]
  refine wpSeq_yield (S := fun _ => True) (v := .pointer (some ⟨gf, 2, none⟩)) (Or.inl ⟨by rfl, fun w' hw' => by go_simp⟩) trivial ?_
  simp only [AP]
  have cs : W7.cell? ⟨gf, 2, none⟩ = some (.int .u64 0) := K.out.cell 2
  have fz := K.out.frozen 2
  refine wpSeq_wp rfl ?_
  unfold Oper.wp execOp
  go_simp
  have K2 : Blk (W7.setCell ⟨gf, 2, none⟩ (.int .u64 (z2 : Int))) gf 26 #[.int .u64 8, .int .u64 (z1 : Int), .int .u64 (z2 : Int), .int .u64 0, .int .u64 0, .bool false, .slice none 0 0, .slice none 0 0] := K.out.set 2 _
  have h2 := RM.far h.out K.out ne.out (nu8_at rfl) 2 (.int .u64 (z2 : Int))
  have KR2 := KR.out.far (p := ⟨gf, 2, none⟩) neR.out (.int .u64 (z2 : Int))
  have T2 := T.trans (Two.set_y W7 2 (.int .u64 (z2 : Int)))
  replace K := Lib.hid K2
  replace h := Lib.hid h2
  replace KR := Lib.hid KR2
  replace T := T2
  replace hb := Nat.le_trans hb (Two.set_y (x := B) (y := gf) W7 2 (.int .u64 (z2 : Int))).size
  clear cs fz K2 h2 KR2 T2
  generalize World.setCell _ _ _ = W8 at *
  refine wpSeq_nil ?_
  refine aK _ _ ?_
  clear aK
  go_upto_region 7 with fail
  rename_i aK
  refine wp_region_seq ?_
  refine wpSeq_yield (S := fun _ => True) (yieldsIf_move rfl _ rfl (.pointer (some ⟨gf, 0, none⟩)) rfl) trivial ?_
  simp only [AP]
  refine wpSeq_yield (S := fun _ => True) (v := .pointer (some ⟨gf, 0, none⟩)) (Or.inl ⟨by rfl, fun w' hw' => by go_simp⟩) trivial ?_
  simp only [AP]
  refine wpSeq_yield (S := fun _ => True) (v := .pointer (some ⟨gf, 2, none⟩)) (Or.inl ⟨by rfl, fun w' hw' => by go_simp⟩) trivial ?_
  simp only [AP]
  refine wpSeq_yield (S := fun w' => w' = W8) (v := .int .u64 (z2 : Int)) (Or.inl ⟨by rfl, fun w' hw' => by (rw [hw']; have cc : W8.cell? ⟨gf, 2, none⟩ = some (.int .u64 (z2 : Int)) := K.out.cell 2; go_simp)⟩) rfl ?_
  simp only [AP]
  refine wpSeq_yield (S := fun _ => True) (v := .bool false) (Or.inl ⟨by rfl, fun w' hw' => by (go_simp; try omega)⟩) trivial ?_
  simp only [AP]
  refine wpSeq_nil ?_
  refine aK _ _ ?_
  clear aK
  go_upto_region 9 with fail
  rename_i aK
  refine wp_region_seq ?_
  refine wpSeq_yield (S := fun _ => True) (yieldsIf_move rfl _ rfl (.pointer (some ⟨gf, 0, none⟩)) rfl) trivial ?_
  simp only [AP]
  refine wpSeq_yield (S := fun w' => w' = W8) (show YieldsIf _ _ _ _ (.agg #[.pointer p]) _ from yieldsIf_load_mid (S := fun w' => w' = W8) rfl 58 _ rfl W.heap.size 0 rfl [.pointer p] _ (fun _ h => h ▸ blk_range KR.out) Try.underlying58 rfl info_rd) rfl ?_
  simp only [AP]
  have T0 := Nat.le_trans (Nat.le_refl _) T.size
  refine wpSeq_wp rfl ?_
  unfold Oper.wp execOp
  go_simp
  refine (DM.out _ h.out hb).mono ?_
  rintro _ W9 ⟨⟨v3, rfl, O3⟩, h1, b1⟩
  replace K := Lib.hid (blk_gb b1 K.out ne.out)
  replace KR := Lib.hid (blk_gb b1 KR.out neB.out)
  replace h := Lib.hid h1
  replace T := T.trans (two_gb b1 gf)
  replace hb := Nat.le_trans hb b1.size
  replace O3 := O3.mono T0
  clear h1 b1 DM
  go_simp
  obtain ⟨pv, cv, hv⟩ := O3.shape
  subst hv
  generalize hDn : D.length = dn at *
  replace hDn := Lib.hid hDn
  refine wpSeq_yield (S := fun _ => True) (v := .pointer (some ⟨gf, 0, none⟩)) (Or.inl ⟨by rfl, fun w' hw' => by go_simp⟩) trivial ?_
  simp only [AP]
  refine wpSeq_yield (S := fun _ => True) (v := .pointer (some ⟨gf, 6, none⟩)) (Or.inl ⟨by rfl, fun w' hw' => by go_simp⟩) trivial ?_
  simp only [AP]
  have cs : W9.cell? ⟨gf, 6, none⟩ = some (.slice none 0 0) := K.out.cell 6
  have fz := K.out.frozen 6
  refine wpSeq_wp rfl ?_
  unfold Oper.wp execOp
  go_simp
  have K2 : Blk (W9.setCell ⟨gf, 6, none⟩ (.slice pv dn cv)) gf 26 #[.int .u64 8, .int .u64 (z1 : Int), .int .u64 (z2 : Int), .int .u64 0, .int .u64 0, .bool false, .slice pv dn cv, .slice none 0 0] := K.out.set 6 _
  have h2 := RM.far h.out K.out ne.out (nu8_at rfl) 6 (.slice pv dn cv)
  have KR2 := KR.out.far (p := ⟨gf, 6, none⟩) neR.out (.slice pv dn cv)
  have T2 := T.trans (Two.set_y W9 6 (.slice pv dn cv))
  have O4 : OwL W.heap.size (W9.setCell ⟨gf, 6, none⟩ (.slice pv dn cv)) (.slice pv dn cv) D := O3.of_block fun g hg => Below.heap_setCell W9 _ _ g (by have := (O3.lt g hg).1; have := glt.out; show g ≠ gf; omega)
  clear O3
  replace K := Lib.hid K2
  replace h := Lib.hid h2
  replace KR := Lib.hid KR2
  replace T := T2
  replace hb := Nat.le_trans hb (Two.set_y (x := B) (y := gf) W9 6 (.slice pv dn cv)).size
  clear cs fz K2 h2 KR2 T2
  generalize World.setCell _ _ _ = W10 at *
  refine wpSeq_nil ?_
  go_wp2
  refine bodyPost_end (results_none rfl _ _ _) rfl ?_
  exact ⟨⟨_, rfl⟩, ⟨_, K.out, O4⟩, h.out, T⟩
set_option maxHeartbeats 8000000 in
set_option maxRecDepth 100000 in
theorem stream15 (B gf : Nat) (p : Option Addr) (l : List Nat) (c : Nat) (z1 : Nat) (l1 : List Nat) (c1 : Nat) (hz1 : numS l c = (z1, l1, c1)) (z2 : Nat) (l2 : List Nat) (c2 : Nat) (hz2 : numS l1 c1 = (z2, l2, c2)) (h2 : z2 ≠ 0) (D ld : List Nat) (cd : Nat) (hD : dataS l2 c2 = (D, ld, cd)) (W : World) (h : RM B W p l c) (hB : B ≤ W.heap.size) (K : Blk W gf 26 #[.int .u64 15, .int .u64 0, .int .u64 0, .int .u64 0, .int .u64 0, .bool false, .slice none 0 0, .slice none 0 0]) (ne : gf ≠ B) :
    Calls Try.prog 42 #[.agg #[.pointer p], .pointer (some ⟨gf, 0, none⟩)] W fun e w' => (∃ v, e = .returned v) ∧ (∃ vd, Blk w' gf 26 #[.int .u64 8, .int .u64 (z1 : Int), .int .u64 (z2 : Int), .int .u64 0, .int .u64 0, .bool true, vd, .slice none 0 0] ∧ OwL W.heap.size w' vd D) ∧ RM B w' p ld cd ∧ Two B gf W w' := by
  have N1 := Lib.hid (fun w h hB => num_m B p l c w h hB)
  rw [hz1] at N1
  have N2 := Lib.hid (fun w h hB => num_m B p l1 c1 w h hB)
  rw [hz2] at N2
  have g2 : ((z2 : Int) == 0) = false := beq_eq_false_iff_ne.2 (by omega)
  have DM := Lib.hid (fun w h hB => data_m B p l2 c2 w h hB)
  rw [hD] at DM
  dsimp only at N1 N2 DM
  clear hz1 hz2 h2 hD
  have hlt : B < W.heap.size := by
    obtain ⟨g, pb, cb, _, hg, KB, _⟩ := h
    have := KB.lt
    omega
  have neB := Lib.hid (show W.heap.size ≠ B by omega)
  have neR := Lib.hid (show W.heap.size ≠ gf by have := K.lt; omega)
  have glt := Lib.hid K.lt
  replace ne := Lib.hid ne
  clear hlt
  go_enter Try.func42, Try.ntmps42
  go_upto_region 0 with fail
  rename_i aK
  refine wp_region_seq ?_
  refine wpSeq_wp rfl ?_
  unfold Oper.wp execOp
  go_simp
  refine wpSeq_nil ?_
  refine aK _ _ ?_
  clear aK
  have b0 := (Below.refl W.heap.size W).alloc (Nat.le_refl _) (.cells #[.pointer p] 58)
  have KR := Lib.hid (Blk.new W 58 #[.pointer p])
  replace K := Lib.hid (K.below' b0)
  replace h := Lib.hid (h.below b0)
  generalize World.alloc W _ = W2 at *
  have T := Two.of b0 (x := B) (y := gf)
  have hb := Nat.le_trans hB b0.size
  have hs0 := b0.size
  clear b0 hB
  go_upto_region 1 with fail
  rename_i aK
  refine wp_region_seq ?_
  refine wpSeq_yield (S := fun _ => True) (yieldsIf_move rfl _ rfl (.pointer (some ⟨gf, 0, none⟩)) rfl) trivial ?_
  simp only [AP]
  refine wpSeq_yield (S := fun _ => True) (v := .pointer (some ⟨gf, 0, none⟩)) (Or.inl ⟨by rfl, fun w' hw' => by go_simp⟩) trivial ?_
  simp only [AP]
  refine wpSeq_yield (S := fun _ => True) (v := .pointer (some ⟨gf, 0, none⟩)) (Or.inl ⟨by rfl, fun w' hw' => by go_simp⟩) trivial ?_
  simp only [AP]
  refine wpSeq_yield (S := fun w' => w' = W2) (v := .int .u64 15) (Or.inl ⟨by rfl, fun w' hw' => by (rw [hw']; have cc : W2.cell? ⟨gf, 0, none⟩ = some (.int .u64 15) := K.out.cell 0; go_simp)⟩) rfl ?_
  simp only [AP]
  refine wpSeq_yield (S := fun _ => True) (yieldsIf_assign rfl _ rfl (.int .u64 15) rfl) trivial ?_
  simp only [AP]
  refine wpSeq_nil ?_
  refine aK _ _ ?_
  clear aK
  go_upto_region 2 with fail
  rename_i aK
  refine wp_region_seq ?_
  refine wpSeq_yield (S := fun _ => True) (yieldsIf_move rfl _ rfl (.pointer (some ⟨gf, 0, none⟩)) rfl) trivial ?_
  simp only [AP]
  refine wpSeq_yield (S := fun _ => True) (v := .pointer (some ⟨gf, 0, none⟩)) (Or.inl ⟨by rfl, fun w' hw' => by go_simp⟩) trivial ?_
  simp only [AP]
  refine wpSeq_yield (S := fun _ => True) (v := .pointer (some ⟨gf, 0, none⟩)) (Or.inl ⟨by rfl, fun w' hw' => by go_simp⟩) trivial ?_
  simp only [AP]
  have cs : W2.cell? ⟨gf, 0, none⟩ = some (.int .u64 15) := K.out.cell 0
  have fz := K.out.frozen 0
  refine wpSeq_wp rfl ?_
  unfold Oper.wp execOp
  go_simp
  have K2 : Blk (W2.setCell ⟨gf, 0, none⟩ (.int .u64 8)) gf 26 #[.int .u64 8, .int .u64 0, .int .u64 0, .int .u64 0, .int .u64 0, .bool false, .slice none 0 0, .slice none 0 0] := K.out.set 0 _
  have h2 := RM.far h.out K.out ne.out (nu8_at rfl) 0 (.int .u64 8)
  have KR2 := KR.out.far (p := ⟨gf, 0, none⟩) neR.out (.int .u64 8)
  have T2 := T.trans (Two.set_y W2 0 (.int .u64 8))
  replace K := Lib.hid K2
  replace h := Lib.hid h2
  replace KR := Lib.hid KR2
  replace T := T2
  replace hb := Nat.le_trans hb (Two.set_y (x := B) (y := gf) W2 0 (.int .u64 8)).size
  clear cs fz K2 h2 KR2 T2
  generalize World.setCell _ _ _ = W3 at *
  refine wpSeq_nil ?_
  refine aK _ _ ?_
  clear aK
  go_upto_region 3 with fail
  rename_i aK
  refine wp_region_seq ?_
  refine wpSeq_yield (S := fun _ => True) (yieldsIf_move rfl _ rfl (.pointer (some ⟨gf, 0, none⟩)) rfl) trivial ?_
  simp only [AP]
  refine wpSeq_yield (S := fun _ => True) (yieldsIf_move rfl _ rfl (.int .u64 15) rfl) trivial ?_
  simp only [AP]
  refine wpSeq_yield (S := fun _ => True) (v := .int .u64 1) (Or.inl ⟨by rfl, fun w' hw' => by (go_simp; try decide)⟩) trivial ?_
  simp only [AP]
  refine wpSeq_yield (S := fun _ => True) (v := .bool true) (Or.inl ⟨by rfl, fun w' hw' => by (go_simp; try decide)⟩) trivial ?_
  simp only [AP]
  refine wpSeq_yield (S := fun _ => True) (v := .pointer (some ⟨gf, 0, none⟩)) (Or.inl ⟨by rfl, fun w' hw' => by go_simp⟩) trivial ?_
  simp only [AP]
  refine wpSeq_yield (S := fun _ => True) (v := .pointer (some ⟨gf, 5, none⟩)) (Or.inl ⟨by rfl, fun w' hw' => by go_simp⟩) trivial ?_
  simp only [AP]
  have cs : W3.cell? ⟨gf, 5, none⟩ = some (.bool false) := K.out.cell 5
  have fz := K.out.frozen 5
  refine wpSeq_wp rfl ?_
  unfold Oper.wp execOp
  go_simp
  have K2 : Blk (W3.setCell ⟨gf, 5, none⟩ (.bool true)) gf 26 #[.int .u64 8, .int .u64 0, .int .u64 0, .int .u64 0, .int .u64 0, .bool true, .slice none 0 0, .slice none 0 0] := K.out.set 5 _
  have h2 := RM.far h.out K.out ne.out (nu8_at rfl) 5 (.bool true)
  have KR2 := KR.out.far (p := ⟨gf, 5, none⟩) neR.out (.bool true)
  have T2 := T.trans (Two.set_y W3 5 (.bool true))
  replace K := Lib.hid K2
  replace h := Lib.hid h2
  replace KR := Lib.hid KR2
  replace T := T2
  replace hb := Nat.le_trans hb (Two.set_y (x := B) (y := gf) W3 5 (.bool true)).size
  clear cs fz K2 h2 KR2 T2
  generalize World.setCell _ _ _ = W4 at *
  refine wpSeq_nil ?_
  refine aK _ _ ?_
  clear aK
  go_upto_region 4 with fail
  rename_i aK
  refine wp_region_seq ?_
  refine wpSeq_yield (S := fun _ => True) (yieldsIf_move rfl _ rfl (.pointer (some ⟨gf, 0, none⟩)) rfl) trivial ?_
  simp only [AP]
  refine wpSeq_yield (S := fun _ => True) (v := .pointer (some ⟨W.heap.size, 0, none⟩)) (Or.inl ⟨by rfl, fun w' hw' => by go_simp⟩) trivial ?_
  simp only [AP]
  refine wpSeq_yield (S := fun w' => w' = W4) (v := .pointer p) (Or.inl ⟨by rfl, fun w' hw' => by (rw [hw']; have cc : W4.cell? ⟨W.heap.size, 0, none⟩ = some (.pointer p) := KR.out.cell 0; go_simp)⟩) rfl ?_
  simp only [AP]
  refine wpSeq_wp rfl ?_
  unfold Oper.wp execOp
  go_simp
  refine (N1.out _ h.out hb).mono ?_
  rintro _ W5 ⟨rfl, h1, b1⟩
  replace K := Lib.hid (blk_gb b1 K.out ne.out)
  replace KR := Lib.hid (blk_gb b1 KR.out neB.out)
  replace h := Lib.hid h1
  replace T := T.trans (two_gb b1 gf)
  replace hb := Nat.le_trans hb b1.size
  clear h1 b1 N1
  go_simp
  refine wpSeq_yield (S := fun _ => True) (v := .pointer (some ⟨gf, 0, none⟩)) (Or.inl ⟨by rfl, fun w' hw' => by go_simp⟩) trivial ?_
  simp only [AP]
  refine wpSeq_yield (S := fun _ => True) (v := .pointer (some ⟨gf, 1, none⟩)) (Or.inl ⟨by rfl, fun w' hw' => by go_simp⟩) trivial ?_
  simp only [AP]
  have cs : W5.cell? ⟨gf, 1, none⟩ = some (.int .u64 0) := K.out.cell 1
  have fz := K.out.frozen 1
  refine wpSeq_wp rfl ?_
  unfold Oper.wp execOp
  go_simp
  have K2 : Blk (W5.setCell ⟨gf, 1, none⟩ (.int .u64 (z1 : Int))) gf 26 #[.int .u64 8, .int .u64 (z1 : Int), .int .u64 0, .int .u64 0, .int .u64 0, .bool true, .slice none 0 0, .slice none 0 0] := K.out.set 1 _
  have h2 := RM.far h.out K.out ne.out (nu8_at rfl) 1 (.int .u64 (z1 : Int))
  have KR2 := KR.out.far (p := ⟨gf, 1, none⟩) neR.out (.int .u64 (z1 : Int))
  have T2 := T.trans (Two.set_y W5 1 (.int .u64 (z1 : Int)))
  replace K := Lib.hid K2
  replace h := Lib.hid h2
  replace KR := Lib.hid KR2
  replace T := T2
  replace hb := Nat.le_trans hb (Two.set_y (x := B) (y := gf) W5 1 (.int .u64 (z1 : Int))).size
  clear cs fz K2 h2 KR2 T2
  generalize World.setCell _ _ _ = W6 at *
  refine wpSeq_nil ?_
  refine aK _ _ ?_
  clear aK
  go_upto_region 5 with fail
  rename_i aK
  refine wp_region_seq ?_
  refine wpSeq_yield (S := fun _ => True) (yieldsIf_move rfl _ rfl (.int .u64 15) rfl) trivial ?_
  simp only [AP]
  refine wpSeq_yield (S := fun _ => True) (v := .int .u64 4) (Or.inl ⟨by rfl, fun w' hw' => by (go_simp; try decide)⟩) trivial ?_
  simp only [AP]
  refine wpSeq_yield (S := fun _ => True) (v := .bool true) (Or.inl ⟨by rfl, fun w' hw' => by (go_simp; try decide)⟩) trivial ?_
  simp only [AP]
  refine wpSeq_nil ?_
  refine aK _ _ ?_
  clear aK
  go_upto_region 6 with fail
  rename_i aK
  refine wp_region_seq ?_
  refine wpSeq_yield (S := fun _ => True) (yieldsIf_move rfl _ rfl (.pointer (some ⟨gf, 0, none⟩)) rfl) trivial ?_
  simp only [AP]
  refine wpSeq_yield (S := fun _ => True) (v := .pointer (some ⟨W.heap.size, 0, none⟩)) (Or.inl ⟨by rfl, fun w' hw' => by go_simp⟩) trivial ?_
  simp only [AP]
  refine wpSeq_yield (S := fun w' => w' = W6) (v := .pointer p) (Or.inl ⟨by rfl, fun w' hw' => by (rw [hw']; have cc : W6.cell? ⟨W.heap.size, 0, none⟩ = some (.pointer p) := KR.out.cell 0; go_simp)⟩) rfl ?_
  simp only [AP]
  refine wpSeq_wp rfl ?_
  unfold Oper.wp execOp
  go_simp
  refine (N2.out _ h.out hb).mono ?_
  rintro _ W7 ⟨rfl, h1, b1⟩
  replace K := Lib.hid (blk_gb b1 K.out ne.out)
  replace KR := Lib.hid (blk_gb b1 KR.out neB.out)
  replace h := Lib.hid h1
  replace T := T.trans (two_gb b1 gf)
  replace hb := Nat.le_trans hb b1.size
  clear h1 b1 N2
  go_simp
  refine wpSeq_yield (S := fun _ => True) (v := .pointer (some ⟨gf, 0, none⟩)) (Or.inl ⟨by rfl, fun w' hw' => by go_simp⟩) trivial ?_
  simp only [AP]
  refine wpSeq_yield (S := fun _ => True) (v := .pointer (some ⟨gf, 2, none⟩)) (Or.inl ⟨by rfl, fun w' hw' => by go_simp⟩) trivial ?_
  simp only [AP]
  have cs : W7.cell? ⟨gf, 2, none⟩ = some (.int .u64 0) := K.out.cell 2
  have fz := K.out.frozen 2
  refine wpSeq_wp rfl ?_
  unfold Oper.wp execOp
  go_simp
  have K2 : Blk (W7.setCell ⟨gf, 2, none⟩ (.int .u64 (z2 : Int))) gf 26 #[.int .u64 8, .int .u64 (z1 : Int), .int .u64 (z2 : Int), .int .u64 0, .int .u64 0, .bool true, .slice none 0 0, .slice none 0 0] := K.out.set 2 _
  have h2 := RM.far h.out K.out ne.out (nu8_at rfl) 2 (.int .u64 (z2 : Int))
  have KR2 := KR.out.far (p := ⟨gf, 2, none⟩) neR.out (.int .u64 (z2 : Int))
  have T2 := T.trans (Two.set_y W7 2 (.int .u64 (z2 : Int)))
  replace K := Lib.hid K2
  replace h := Lib.hid h2
  replace KR := Lib.hid KR2
  replace T := T2
  replace hb := Nat.le_trans hb (Two.set_y (x := B) (y := gf) W7 2 (.int .u64 (z2 : Int))).size
  clear cs fz K2 h2 KR2 T2
  generalize World.setCell _ _ _ = W8 at *
  refine wpSeq_nil ?_
  refine aK _ _ ?_
  clear aK
  go_upto_region 7 with fail
  rename_i aK
  refine wp_region_seq ?_
  refine wpSeq_yield (S := fun _ => True) (yieldsIf_move rfl _ rfl (.pointer (some ⟨gf, 0, none⟩)) rfl) trivial ?_
  simp only [AP]
  refine wpSeq_yield (S := fun _ => True) (v := .pointer (some ⟨gf, 0, none⟩)) (Or.inl ⟨by rfl, fun w' hw' => by go_simp⟩) trivial ?_
  simp only [AP]
  refine wpSeq_yield (S := fun _ => True) (v := .pointer (some ⟨gf, 2, none⟩)) (Or.inl ⟨by rfl, fun w' hw' => by go_simp⟩) trivial ?_
  simp only [AP]
  refine wpSeq_yield (S := fun w' => w' = W8) (v := .int .u64 (z2 : Int)) (Or.inl ⟨by rfl, fun w' hw' => by (rw [hw']; have cc : W8.cell? ⟨gf, 2, none⟩ = some (.int .u64 (z2 : Int)) := K.out.cell 2; go_simp)⟩) rfl ?_
  simp only [AP]
  refine wpSeq_yield (S := fun _ => True) (v := .bool false) (Or.inl ⟨by rfl, fun w' hw' => by (go_simp; try omega)⟩) trivial ?_
  simp only [AP]
  refine wpSeq_nil ?_
  refine aK _ _ ?_
  clear aK
  go_upto_region 9 with fail
  rename_i aK
  refine wp_region_seq ?_
  refine wpSeq_yield (S := fun _ => True) (yieldsIf_move rfl _ rfl (.pointer (some ⟨gf, 0, none⟩)) rfl) trivial ?_
  simp only [AP]
  refine wpSeq_yield (S := fun w' => w' = W8) (show YieldsIf _ _ _ _ (.agg #[.pointer p]) _ from yieldsIf_load_mid (S := fun w' => w' = W8) rfl 58 _ rfl W.heap.size 0 rfl [.pointer p] _ (fun _ h => h ▸ blk_range KR.out) Try.underlying58 rfl info_rd) rfl ?_
  simp only [AP]
  have T0 := Nat.le_trans (Nat.le_refl _) T.size
  refine wpSeq_wp rfl ?_
  unfold Oper.wp execOp
  go_simp
  refine (DM.out _ h.out hb).mono ?_
  rintro _ W9 ⟨⟨v3, rfl, O3⟩, h1, b1⟩
  replace K := Lib.hid (blk_gb b1 K.out ne.out)
  replace KR := Lib.hid (blk_gb b1 KR.out neB.out)
  replace h := Lib.hid h1
  replace T := T.trans (two_gb b1 gf)
  replace hb := Nat.le_trans hb b1.size
  replace O3 := O3.mono T0
  clear h1 b1 DM
  go_simp
  obtain ⟨pv, cv, hv⟩ := O3.shape
  subst hv
  generalize hDn : D.length = dn at *
  replace hDn := Lib.hid hDn
  refine wpSeq_yield (S := fun _ => True) (v := .pointer (some ⟨gf, 0, none⟩)) (Or.inl ⟨by rfl, fun w' hw' => by go_simp⟩) trivial ?_
  simp only [AP]
  refine wpSeq_yield (S := fun _ => True) (v := .pointer (some ⟨gf, 6, none⟩)) (Or.inl ⟨by rfl, fun w' hw' => by go_simp⟩) trivial ?_
  simp only [AP]
  have cs : W9.cell? ⟨gf, 6, none⟩ = some (.slice none 0 0) := K.out.cell 6
  have fz := K.out.frozen 6
  refine wpSeq_wp rfl ?_
  unfold Oper.wp execOp
  go_simp
  have K2 : Blk (W9.setCell ⟨gf, 6, none⟩ (.slice pv dn cv)) gf 26 #[.int .u64 8, .int .u64 (z1 : Int), .int .u64 (z2 : Int), .int .u64 0, .int .u64 0, .bool true, .slice pv dn cv, .slice none 0 0] := K.out.set 6 _
  have h2 := RM.far h.out K.out ne.out (nu8_at rfl) 6 (.slice pv dn cv)
  have KR2 := KR.out.far (p := ⟨gf, 6, none⟩) neR.out (.slice pv dn cv)
  have T2 := T.trans (Two.set_y W9 6 (.slice pv dn cv))
  have O4 : OwL W.heap.size (W9.setCell ⟨gf, 6, none⟩ (.slice pv dn cv)) (.slice pv dn cv) D := O3.of_block fun g hg => Below.heap_setCell W9 _ _ g (by have := (O3.lt g hg).1; have := glt.out; show g ≠ gf; omega)
  clear O3
  replace K := Lib.hid K2
  replace h := Lib.hid h2
  replace KR := Lib.hid KR2
  replace T := T2
  replace hb := Nat.le_trans hb (Two.set_y (x := B) (y := gf) W9 6 (.slice pv dn cv)).size
  clear cs fz K2 h2 KR2 T2
  generalize World.setCell _ _ _ = W10 at *
  refine wpSeq_nil ?_
  go_wp2
  refine bodyPost_end (results_none rfl _ _ _) rfl ?_
  exact ⟨⟨_, rfl⟩, ⟨_, K.out, O4⟩, h.out, T⟩
end Go.Proofs.Ytdlhclakdllogaa
/- Rows of spans of one's own; what a Reader keeps while they grow. -/
namespace Go.Proofs.Ytdlhclakdllogaa
open Go.RowKit

theorem RM.gb {B : Nat} {w w' : World} {p : Option Addr} {l : List Nat} {c : Nat} {row : Option Nat} (h : RM B w p l c) (k : w.grownBy w' row) (hr : ∀ g, row = some g → B < g) : RM B w' p l c := by
  obtain ⟨g, pb, cb, e, hg, KB, S, n, bb, ll⟩ := h
  subst hg
  refine ⟨B, pb, cb, e, rfl, (k.block B KB.lt (fun e => by have := hr B e.symm; omega)).trans KB, ?_, n, bb, ll⟩
  rcases S.at_ with h0 | ⟨g1, o1, rfl, A⟩
  · have : l = [] := List.eq_nil_of_length_eq_zero h0
    subst this
    exact SB.nil _ _ _
  · have hl := S.len.2
    have hn := n _ rfl
    exact SB.of_ba' (A.of_block (k.block g1 A.blk (fun e => by have := hr g1 e.symm; have : g1 < B := hn; omega))) rfl hl
def OwS (B : Nat) (w : World) (v : Value) (l : List (Nat × Nat)) : Prop := w.ownsRow B 47 2 v l.length (l.flatMap spL)
theorem OwS.nil (B : Nat) (w : World) : OwS B w (.slice none 0 0) [] := ⟨rfl, .inl ⟨rfl, rfl⟩⟩
theorem flat2 : ∀ (l : List (Nat × Nat)) (i j : Nat) (hi : i < l.length), j < 2 → (l.flatMap spL)[i * 2 + j]? = (spL l[i])[j]?
  | [], _, _, h, _ => absurd h (Nat.not_lt_zero _)
  | x :: l, 0, j, _, hj => by
    rw [List.flatMap_cons, Nat.zero_mul, Nat.zero_add, List.getElem?_append_left (show j < 2 from hj)]
    rfl
  | x :: l, i + 1, j, h, hj => by
    rw [List.flatMap_cons, List.getElem?_append_right (show 2 ≤ (i + 1) * 2 + j by omega), show (i + 1) * 2 + j - (spL x).length = i * 2 + j by show (i + 1) * 2 + j - 2 = _; omega]
    exact flat2 l i j (by simp only [List.length_cons] at h; omega) hj
theorem flat2_length : ∀ l : List (Nat × Nat), (l.flatMap spL).length = l.length * 2
  | [] => rfl
  | x :: l => by
    rw [List.flatMap_cons, List.length_append, flat2_length l, List.length_cons]
    show 2 + l.length * 2 = _
    omega
theorem OwS.of_block {B : Nat} {w w' : World} {v : Value} {l : List (Nat × Nat)} (h : OwS B w v l) (hb : ∀ g, v.ownBlock = some g → w'.heap[g]? = w.heap[g]?) : OwS B w' v l := by
  obtain ⟨hl, hr⟩ := h
  refine ⟨hl, hr.imp id ?_⟩
  rintro ⟨g, cap, cur, e, hB, hg, r⟩
  exact ⟨g, cap, cur, e, hB, by rw [hb g (by rw [e]; rfl)]; exact hg, r⟩
theorem OwS.lt {B : Nat} {w : World} {v : Value} {l : List (Nat × Nat)} (h : OwS B w v l) (g : Nat) (hg : v.ownBlock = some g) : B ≤ g ∧ g < w.heap.size := World.ownsRow.lt h g hg
theorem OwS.below {B : Nat} {w w' : World} {v : Value} {l : List (Nat × Nat)} (h : OwS B w v l) (hb : Below w.heap.size w w') : OwS B w' v l :=
  h.of_block fun g hg => hb.block g (h.lt g hg).2
theorem OwS.mono {B B' : Nat} {w : World} {v : Value} {l : List (Nat × Nat)} (h : OwS B w v l) (hB : B' ≤ B) : OwS B' w v l := by
  obtain ⟨hl, hr⟩ := h
  refine ⟨hl, hr.imp id ?_⟩
  rintro ⟨g, cap, cur, e, hb, r⟩
  exact ⟨g, cap, cur, e, Nat.le_trans hB hb, r⟩
theorem OwS.shape {B : Nat} {w : World} {v : Value} {l : List (Nat × Nat)} (h : OwS B w v l) : ∃ p c, v = .slice p l.length c := by
  obtain ⟨_, h | ⟨g, cap, cur, e, _⟩⟩ := h
  · exact ⟨none, 0, by rw [h.1, h.2]⟩
  · exact ⟨_, cap, e⟩
theorem OwS.sa {B : Nat} {w : World} {v : Value} {l : List (Nat × Nat)} (h : OwS B w v l) : SA w v l := by
  obtain ⟨hl, h | ⟨g, cap, cur, e, hB, hg, hn, hc, hcs, ht⟩⟩ := h
  · have : l = [] := List.length_eq_zero_iff.1 h.2
    subst this
    rw [h.1]
    exact SA.nil _ _ _
  · refine ⟨_, cap, e, hn, ?_⟩
    by_cases h0 : l = []
    · exact Or.inl h0
    · right
      refine ⟨g, 0, rfl, fun i hi j u hu => ?_, ?_⟩
      · have hj : j < 2 := (List.getElem?_eq_some_iff.1 hu).1
        have h1 := flat2 l i j hi hj
        rw [← ht, List.getElem?_take_of_lt (by omega)] at h1
        rw [cell_of_row w g _ cur _ _ hg, ← Array.getElem?_toList, Nat.zero_add, h1]
        exact hu
      · rcases Nat.lt_or_ge g w.heap.size with h1 | h1
        · exact h1
        · rw [Array.getElem?_eq_none h1] at hg
          cases hg
theorem info_sp_all : (Try.prog.info? 47).map (fun i => (i.size, i.bytes)) = some (2, 16) := by kernel_rfl
theorem info_sp_zero : (Try.prog.info? 47).map (fun i => i.zero) = some (some (.agg #[.int .u64 0, .int .u64 0])) := by kernel_rfl
theorem info_sp3 : ∃ i, Try.prog.info? 47 = some i ∧ i.size = 2 ∧ i.bytes = 16 ∧ i.zero = some (.agg #[.int .u64 0, .int .u64 0]) := by
  have h1 := info_sp_all
  have h2 := info_sp_zero
  cases h : Try.prog.info? 47 with
  | none => rw [h] at h1; cases h1
  | some i =>
    rw [h] at h1 h2
    simp only [Option.map_some, Option.some.injEq, Prod.mk.injEq] at h1 h2
    exact ⟨i, rfl, h1.1, h1.2, h2⟩
/-- A span behind a row of one's own. -/
theorem append_span (B : Nat) (w : World) (ty : TypeId) (v : Value) (l : List (Nat × Nat)) (x y : Nat) (O : OwS B w v l) (hl : l.length ≤ 1000) (hB : B ≤ w.heap.size) :
    ∃ v' w', (Builtin.append_ #[24, 24] ty #[v, .slice (some ⟨w.heap.size, 0, none⟩) 1 1]).run Try.prog (w.alloc (.cells #[.int .u64 (x : Int), .int .u64 (y : Int)] 47)) = .ok v' w' ∧ OwS B w' v' (l ++ [(x, y)]) ∧ w.grownBy w' v.ownBlock := by
  have b1 := (Below.refl w.heap.size w).alloc (Nat.le_refl _) (.cells #[.int .u64 (x : Int), .int .u64 (y : Int)] 47)
  have O1 := O.below b1
  obtain ⟨i, hi, hs, hy, hz⟩ := info_sp3
  obtain ⟨v', w', hr, h2, h3, h4, h5⟩ := run_append_own_at (P := Try.prog) _ B 24 ty 47 i (.agg #[.int .u64 0, .int .u64 0]) 2 16 Try.underlying24 hi hz hs hy rfl (by decide) v l.length (l.flatMap spL) O1 ⟨w.heap.size, 0, none⟩ 1 1 (spL (x, y)) rfl
    (fun j u hu => by
      rw [Addr.add_lit, Nat.zero_add, (Blk.new w 47 #[.int .u64 (x : Int), .int .u64 (y : Int)]).cell, List.getElem?_toArray]
      exact hu) (fun v hv => by
        simp only [spL, List.mem_cons, List.not_mem_nil, or_false] at hv
        rcases hv with rfl | rfl <;> rfl) (by simp only [maxLen]; omega) (by omega) (by have := b1.size; omega)
  refine ⟨v', w', hr, ?_, (gb_below b1 _).trans h3⟩
  unfold OwS
  rw [List.length_append, List.flatMap_append, List.flatMap_cons, List.flatMap_nil, List.append_nil]
  exact h2
theorem lessS_le (a b c : Nat) : (lessS a b c).1 ≤ a := by
  unfold lessS
  split
  · exact Nat.zero_le _
  · show a - b ≤ a
    omega
theorem lessS_ne {a b c : Nat} (h : c ≠ 0) : (lessS a b c).2 ≠ 0 := by
  unfold lessS failS
  rw [if_neg h]
  split <;> exact h
end Go.Proofs.Ytdlhclakdllogaa
