/- The law HeadPuts, by contract (printed by gen12/sk.py). -/
import Derived.Test.YtfhiflakglhneaaSc
import Derived.Test.YtfhiflakglhneaaSj
namespace Go.Proofs.Ytfhiflakglhneaa
open Go.RowKit

section
variable {P : Program} {md : Region.Mode} {ops : Array Oper} {Q : Exit → Act → World → Prop} {S : World → Prop}
/-- The one operation that is ready is run. -/
theorem zstep {z fuel : Nat} {listed : Array Bool} {a : Act} {w : World} (i : Nat) {oi : Oper} (hi : ops.toList[i]? = some oi) (hr : Region.ready md ops listed = [i]) (hgd : oi.guard = none)
    (h : oi.wp P a w (fun a' w' => ((listed.setIfInBounds i true).getD z true = false → S w') ∧ wpAnyZ P md ops Q S z fuel (listed.setIfInBounds i true) a' w') Q) : wpAnyZ P md ops Q S z (fuel + 1) listed a w := by
  refine wpAnyZ_one hr ?_
  unfold wpOp
  rw [← Array.getElem?_toList, hi]
  have hw : Region.wanted oi (yielded ops a.tmps) = true := by simp [Region.wanted, hgd]
  simp only [hw, if_true]
  left
  exact h
/-- One of the two that are ready, whichever. -/
theorem zsteps {z fuel : Nat} {listed : Array Bool} {a : Act} {w : World} (i j : Nat) {oi oj : Oper} (hi : ops.toList[i]? = some oi) (hj : ops.toList[j]? = some oj) (hr : Region.ready md ops listed = [i, j]) (gi : oi.guard = none) (gj : oj.guard = none)
    (h1 : oi.wp P a w (fun a' w' => ((listed.setIfInBounds i true).getD z true = false → S w') ∧ wpAnyZ P md ops Q S z fuel (listed.setIfInBounds i true) a' w') Q)
    (h2 : oj.wp P a w (fun a' w' => ((listed.setIfInBounds j true).getD z true = false → S w') ∧ wpAnyZ P md ops Q S z fuel (listed.setIfInBounds j true) a' w') Q) : wpAnyZ P md ops Q S z (fuel + 1) listed a w := by
  refine wpAnyZ_two hr ?_ ?_
  · unfold wpOp
    rw [← Array.getElem?_toList, hi]
    have hw : Region.wanted oi (yielded ops a.tmps) = true := by simp [Region.wanted, gi]
    simp only [hw, if_true]
    left
    exact h1
  · unfold wpOp
    rw [← Array.getElem?_toList, hj]
    have hw : Region.wanted oj (yielded ops a.tmps) = true := by simp [Region.wanted, gj]
    simp only [hw, if_true]
    left
    exact h2
end
/-- A head's two names stored anew. -/
theorem hd_names {w : World} {g : Nat} {a b c b' c' : Value} (K : Blk w g 31 #[a, b, c]) : Blk ((w.setCell ⟨g, 1, none⟩ b').setCell ⟨g, 2, none⟩ c') g 31 #[a, b', c'] := (K.set 1 b').set 2 c'
/-- What stands behind the names' storing. -/
structure Named (W : World) (sp : Int) (to fr : List Nat) (s t : Value) (w : World) : Prop where
  blk : Blk w W.heap.size 31 #[.int .i64 sp, s, t]
  to_ : SB w s to
  fr_ : SB w t fr
  bel : Below W.heap.size W w
  lt : W.heap.size < w.heap.size
  ne : (∀ g o n c, s = .slice (some ⟨g, o, none⟩) n c → g ≠ W.heap.size) ∧ ∀ g o n c, t = .slice (some ⟨g, o, none⟩) n c → g ≠ W.heap.size
theorem below_set {W w : World} (h : Below W.heap.size W w) (i : Nat) (v : Value) : Below W.heap.size W (w.setCell ⟨W.heap.size, i, none⟩ v) := ⟨h.os, h.tape, h.output, by simpa using h.size, fun k hk => (heap_setCell_other w _ k v (by show k ≠ W.heap.size; omega)).trans (h.block k hk)⟩
theorem Named.space {W w : World} {sp : Int} {a b : List Nat} {s t : Value} (h : Named W sp a b s t w) (sq : Int) : Named W sq a b s t (w.setCell ⟨W.heap.size, 0, none⟩ (.int .i64 sq)) :=
  ⟨h.blk.set 0 _, sb_set h.to_ h.ne.1 0 _, sb_set h.fr_ h.ne.2 0 _, below_set h.bel 0 _, by have := h.lt; simpa using this, h.ne⟩
theorem named_of {W W2 w : World} {sp : Int} {to fr : List Nat} {a b : Value} (K : Blk W2 W.heap.size 31 #[.int .i64 sp, a, b]) (h0 : Below W.heap.size W W2) (zz : W.heap.size < W2.heap.size) (h : Below W2.heap.size W2 w) {g4 c4 n4 g5 c5 n5 : Nat}
    (O : Own2 W2.heap.size w (.slice (some ⟨g4, 0, none⟩) n4 c4) (to ++ List.replicate 8 0) (.slice (some ⟨g5, 0, none⟩) n5 c5) (fr ++ List.replicate 8 0)) (_h4 : 8 ≤ c4) (_h5 : 8 ≤ c5) :
    Named W sp (pad8 to) (pad8 fr) (.slice (some ⟨g4, 0, none⟩) 8 c4) (.slice (some ⟨g5, 0, none⟩) 8 c5) ((w.setCell ⟨W.heap.size, 1, none⟩ (.slice (some ⟨g4, 0, none⟩) 8 c4)).setCell ⟨W.heap.size, 2, none⟩ (.slice (some ⟨g5, 0, none⟩) 8 c5)) := by
  have e4 := O.fst.own.lt g4 rfl
  have e5 := O.snd.own.lt g5 rfl
  have K' := K.below' h
  have A4 : SB w (.slice (some ⟨g4, 0, none⟩) 8 c4) (pad8 to) := by
    have := O.fst.own.sb
    obtain ⟨l1, l2⟩ := this.len
    have := this.head 8 (by rw [l1, List.length_append, List.length_replicate]; omega)
    exact this
  have A5 : SB w (.slice (some ⟨g5, 0, none⟩) 8 c5) (pad8 fr) := by
    have := O.snd.own.sb
    obtain ⟨l1, l2⟩ := this.len
    have := this.head 8 (by rw [l1, List.length_append, List.length_replicate]; omega)
    exact this
  have n4 : ∀ g o n c, Value.slice (some ⟨g4, 0, none⟩) 8 c4 = .slice (some ⟨g, o, none⟩) n c → g ≠ W.heap.size := by
    intro g o n c e
    simp only [Value.slice.injEq, Option.some.injEq, Addr.mk.injEq] at e
    omega
  have n5 : ∀ g o n c, Value.slice (some ⟨g5, 0, none⟩) 8 c5 = .slice (some ⟨g, o, none⟩) n c → g ≠ W.heap.size := by
    intro g o n c e
    simp only [Value.slice.injEq, Option.some.injEq, Addr.mk.injEq] at e
    omega
  have b' := h0.trans (h.mono h0.size)
  have sz := h.size
  exact ⟨hd_names K', sb_set (sb_set A4 n4 1 _) n4 2 _, sb_set (sb_set A5 n5 1 _) n5 2 _, below_set (below_set b' 1 _) 2 _, by simp; omega, n4, n5⟩
set_option maxHeartbeats 8000000 in
set_option maxRecDepth 100000 in
theorem hputs_c (SC : ShortC) (FC : FullC) (PC : PutHC) (sp : Int) (to fr : List Nat) (pn : Nat) (k z : Int) (r : Bool) (vt vf : Value) (W : World) (ws : i64_ok sp) (wk : i64_ok k) (wz : i64_ok z) (bt : Bytes to) (bf : Bytes fr) (hp : pn < 18446744073709551616) (h1 : SB W vt to) (h2 : SB W vf fr) :
    Calls Try.prog 5 #[hdV sp vt vf, .int .u64 (pn : Int), .int .i64 k, .int .i64 z, .bool r] W fun e w' => e = .returned (.bool true) ∧ Below W.heap.size W w' := by
  have AW := Lib.hid (hawake_c SC FC)
  have PC := Lib.hid (fun sp to fr k z vt vf W a1 a2 a3 a4 a5 a6 a7 a8 a9 => PC sp to fr pn k z vt vf W a1 a2 a3 a4 a5 a6 a7 hp a8 a9)
  have RC := Lib.hid (fun sp to fr k z vt vf W a6 a7 a8 a9 => rhead_c sp to fr pn k z vt vf W a6 a7 hp a8 a9)
  have WS := Lib.hid (And.intro ws (And.intro wk wz))
  have BB := Lib.hid (And.intro bt bf)
  clear SC FC hp ws wk wz bt bf
  obtain ⟨p1, c1, rfl⟩ := h1.shape
  obtain ⟨p2, c2, rfl⟩ := h2.shape
  show Calls Try.prog 5 #[.agg #[.int .i64 sp, .slice p1 to.length c1, .slice p2 fr.length c2], .int .u64 (pn : Int), .int .i64 k, .int .i64 z, .bool r] W _
  obtain ⟨m, hm⟩ : ∃ m, to.length = m := ⟨_, rfl⟩
  obtain ⟨n, hn⟩ : ∃ n, fr.length = n := ⟨_, rfl⟩
  rw [hm] at h1
  rw [hn] at h2
  rw [hm, hn]
  have MN := Lib.hid (And.intro hm hn)
  clear hm hn
  go_enter Try.func5, Try.ntmps5
  go_upto_region 0 with fail
  rename_i aK
  refine wp_region_seq ?_
  refine wpSeq_wp rfl ?_
  unfold Oper.wp execOp
  go_simp
  refine wpSeq_yield (S := fun _ => True) (yieldsIf_assign rfl _ rfl (.bool false) rfl) trivial ?_
  simp only [AP]
  refine wpSeq_nil ?_
  refine aK _ _ ?_
  clear aK
  have K := Blk.new W 31 #[.int .i64 sp, .slice p1 m c1, .slice p2 n c2]
  have b := (Below.refl W.heap.size W).alloc (Nat.le_refl _) (.cells #[.int .i64 sp, .slice p1 m c1, .slice p2 n c2] 31)
  have zz : W.heap.size < (W.alloc (.cells #[.int .i64 sp, .slice p1 m c1, .slice p2 n c2] 31)).heap.size := by rw [size_alloc1]; omega
  generalize World.alloc W _ = W1 at *
  go_upto_region 1 with fail
  rename_i aK
  refine wp_region_seq ?_
  refine wpSeq_wp rfl ?_
  unfold Oper.wp execOp
  go_simp
  refine (AW.out W1).mono ?_
  rintro _ W2 ⟨rfl, b2⟩
  replace K := Lib.hid (K.below' b2)
  replace zz : W.heap.size < W2.heap.size := by have := b2.size; omega
  replace b := Lib.hid (b.trans (b2.mono b.size))
  replace h1 := Lib.hid (h1.below b.out)
  replace h2 := Lib.hid (h2.below b.out)
  clear AW b2
  go_simp
  refine wpSeq_yield (S := fun _ => True) (v := .bool false) (Or.inl ⟨by rfl, fun w' hw' => by go_simp⟩) trivial ?_
  simp only [AP]
  refine wpSeq_nil ?_
  refine (by assumption : ∀ (a : Act) (w : World), _ → _) _ _ ?_
  have x1 : W2.cell? ⟨W.heap.size, 1, none⟩ = some (.slice p1 m c1) := K.out.cell 1
  have x2 : W2.cell? ⟨W.heap.size, 2, none⟩ = some (.slice p2 n c2) := K.out.cell 2
  by_cases l1 : 100 < m
  · skip
    go_upto_region 3 with fail
    rename_i aK
    refine wp_region_seq ?_
    refine wpSeq_yield (S := fun _ => True) (v := .pointer (some ⟨W.heap.size, 1, none⟩)) (Or.inl ⟨by rfl, fun w' hw' => by go_simp⟩) trivial ?_
    simp only [AP]
    refine wpSeq_yield (S := fun w' => w' = W2) (v := .slice p1 m c1) (Or.inl ⟨by rfl, fun w' hw' => by (rw [hw']; go_simp)⟩) rfl ?_
    simp only [AP]
    refine wpSeq_yield (S := fun _ => True) (v := .int .i64 (m : Int)) (Or.inl ⟨by rfl, fun w' hw' => by go_simp⟩) trivial ?_
    simp only [AP]
    refine wpSeq_yield (S := fun _ => True) (v := .bool true) (Or.inl ⟨by rfl, fun w' hw' => by (go_simp; try omega)⟩) trivial ?_
    simp only [AP]
    refine wpSeq_yield (S := fun _ => True) (yieldsIf_move rfl _ rfl (.bool true) rfl) trivial ?_
    simp only [AP]
    refine wpSeq_yield (S := fun _ => True) (yieldsIf_off rfl) trivial ?_
    simp only [AP]
    refine wpSeq_yield (S := fun _ => True) (yieldsIf_off rfl) trivial ?_
    simp only [AP]
    refine wpSeq_yield (S := fun _ => True) (yieldsIf_off rfl) trivial ?_
    simp only [AP]
    refine wpSeq_yield (S := fun _ => True) (yieldsIf_off rfl) trivial ?_
    simp only [AP]
    refine wpSeq_yield (S := fun _ => True) (yieldsIf_pick rfl _ _ _ rfl true rfl (.bool true) rfl) trivial ?_
    simp only [AP]
    refine wpSeq_nil ?_
    refine (by assumption : ∀ (a : Act) (w : World), _ → _) _ _ ?_
    go_wp2
    go_ret
    exact ⟨rfl, b.out⟩
  by_cases l2 : 100 < n
  · skip
    go_upto_region 3 with fail
    rename_i aK
    refine wp_region_seq ?_
    refine wpSeq_yield (S := fun _ => True) (v := .pointer (some ⟨W.heap.size, 1, none⟩)) (Or.inl ⟨by rfl, fun w' hw' => by go_simp⟩) trivial ?_
    simp only [AP]
    refine wpSeq_yield (S := fun w' => w' = W2) (v := .slice p1 m c1) (Or.inl ⟨by rfl, fun w' hw' => by (rw [hw']; go_simp)⟩) rfl ?_
    simp only [AP]
    refine wpSeq_yield (S := fun _ => True) (v := .int .i64 (m : Int)) (Or.inl ⟨by rfl, fun w' hw' => by go_simp⟩) trivial ?_
    simp only [AP]
    refine wpSeq_yield (S := fun _ => True) (v := .bool false) (Or.inl ⟨by rfl, fun w' hw' => by (go_simp; try omega)⟩) trivial ?_
    simp only [AP]
    refine wpSeq_yield (S := fun _ => True) (yieldsIf_move rfl _ rfl (.bool false) rfl) trivial ?_
    simp only [AP]
    refine wpSeq_yield (S := fun _ => True) (v := .pointer (some ⟨W.heap.size, 2, none⟩)) (Or.inl ⟨by rfl, fun w' hw' => by go_simp⟩) trivial ?_
    simp only [AP]
    refine wpSeq_yield (S := fun w' => w' = W2) (v := .slice p2 n c2) (Or.inl ⟨by rfl, fun w' hw' => by (rw [hw']; go_simp)⟩) rfl ?_
    simp only [AP]
    refine wpSeq_yield (S := fun _ => True) (v := .int .i64 (n : Int)) (Or.inl ⟨by rfl, fun w' hw' => by go_simp⟩) trivial ?_
    simp only [AP]
    refine wpSeq_yield (S := fun _ => True) (v := .bool true) (Or.inl ⟨by rfl, fun w' hw' => by (go_simp; try omega)⟩) trivial ?_
    simp only [AP]
    refine wpSeq_yield (S := fun _ => True) (yieldsIf_pick rfl _ _ _ rfl false rfl (.bool true) rfl) trivial ?_
    simp only [AP]
    refine wpSeq_nil ?_
    refine (by assumption : ∀ (a : Act) (w : World), _ → _) _ _ ?_
    go_wp2
    go_ret
    exact ⟨rfl, b.out⟩
  go_upto_region 3 with fail
  rename_i aK
  refine wp_region_seq ?_
  refine wpSeq_yield (S := fun _ => True) (v := .pointer (some ⟨W.heap.size, 1, none⟩)) (Or.inl ⟨by rfl, fun w' hw' => by go_simp⟩) trivial ?_
  simp only [AP]
  refine wpSeq_yield (S := fun w' => w' = W2) (v := .slice p1 m c1) (Or.inl ⟨by rfl, fun w' hw' => by (rw [hw']; go_simp)⟩) rfl ?_
  simp only [AP]
  refine wpSeq_yield (S := fun _ => True) (v := .int .i64 (m : Int)) (Or.inl ⟨by rfl, fun w' hw' => by go_simp⟩) trivial ?_
  simp only [AP]
  refine wpSeq_yield (S := fun _ => True) (v := .bool false) (Or.inl ⟨by rfl, fun w' hw' => by (go_simp; try omega)⟩) trivial ?_
  simp only [AP]
  refine wpSeq_yield (S := fun _ => True) (yieldsIf_move rfl _ rfl (.bool false) rfl) trivial ?_
  simp only [AP]
  refine wpSeq_yield (S := fun _ => True) (v := .pointer (some ⟨W.heap.size, 2, none⟩)) (Or.inl ⟨by rfl, fun w' hw' => by go_simp⟩) trivial ?_
  simp only [AP]
  refine wpSeq_yield (S := fun w' => w' = W2) (v := .slice p2 n c2) (Or.inl ⟨by rfl, fun w' hw' => by (rw [hw']; go_simp)⟩) rfl ?_
  simp only [AP]
  refine wpSeq_yield (S := fun _ => True) (v := .int .i64 (n : Int)) (Or.inl ⟨by rfl, fun w' hw' => by go_simp⟩) trivial ?_
  simp only [AP]
  refine wpSeq_yield (S := fun _ => True) (v := .bool false) (Or.inl ⟨by rfl, fun w' hw' => by (go_simp; try omega)⟩) trivial ?_
  simp only [AP]
  refine wpSeq_yield (S := fun _ => True) (yieldsIf_pick rfl _ _ _ rfl false rfl (.bool false) rfl) trivial ?_
  simp only [AP]
  refine wpSeq_nil ?_
  refine (by assumption : ∀ (a : Act) (w : World), _ → _) _ _ ?_
  cases r with
  | false =>
    clear x1 x2
    go_upto_region 5 with fail
    rename_i aK
    refine wp_region_seq ?_
    refine wpSeq_yield (S := fun _ => True) (yieldsIf_move rfl _ rfl (.bool false) rfl) trivial ?_
    simp only [AP]
    refine wpSeq_nil ?_
    refine (by assumption : ∀ (a : Act) (w : World), _ → _) _ _ ?_
    obtain ⟨pf, hpf⟩ : ∃ pf, putF sp to fr pn k z = pf := ⟨_, rfl⟩
    have C1 := Lib.hid (PC.out sp to fr k z (.slice p1 m c1) (.slice p2 n c2) W2 WS.out.1 WS.out.2.1 WS.out.2.2 BB.out.1 BB.out.2 (by have := MN.out.1; omega) (by have := MN.out.2; omega) h1.out h2.out)
    have C2 := Lib.hid (fun W' (b' : Below W2.heap.size W2 W') => RC.out sp to fr k z (.slice p1 m c1) (.slice p2 n c2) W' (by have := MN.out.1; omega) (by have := MN.out.2; omega) (SB.below h1.out b') (SB.below h2.out b'))
    unfold PutPost at C1 C2
    rw [hpf] at C1
    simp only [hpf] at C2
    clear hpf PC RC
    obtain ⟨code, bs⟩ := pf
    dsimp only at C1 C2
    have rg : W2.rangeAt W.heap.size 0 [.int .i64 sp, .slice p1 m c1, .slice p2 n c2] := blk_range K.out
    go_upto_region 8 with fail
    rename_i aK
    refine wp_region_seq ?_
    refine wpSeq_yield (S := fun w' => w' = W2) (show YieldsIf _ _ _ _ (.agg #[.int .i64 sp, .slice p1 m c1, .slice p2 n c2]) _ from yieldsIf_load_mid (S := fun w' => w' = W2) rfl 31 _ rfl W.heap.size 0 rfl [.int .i64 sp, .slice p1 m c1, .slice p2 n c2] _ (fun _ h => h ▸ rg) Try.underlying31 rfl info_hd) rfl ?_
    simp only [AP]
    refine wpSeq_yield (S := fun _ => True) (yieldsIf_move rfl _ rfl (.int .u64 (pn : Int)) rfl) trivial ?_
    simp only [AP]
    refine wpSeq_yield (S := fun _ => True) (yieldsIf_move rfl _ rfl (.int .i64 k) rfl) trivial ?_
    simp only [AP]
    refine wpSeq_yield (S := fun _ => True) (yieldsIf_move rfl _ rfl (.int .i64 z) rfl) trivial ?_
    simp only [AP]
    refine wpSeq_wp rfl ?_
    unfold Oper.wp execOp
    go_simp
    refine C1.out.mono ?_
    rintro _ w3 ⟨v3, rfl, O3, b3⟩
    go_simp
    refine wpSeq_yield (S := fun _ => True) (yieldsIf_move rfl _ rfl (.tuple #[v3, .int .i64 (code : Int)]) rfl) trivial ?_
    simp only [AP]
    refine wpSeq_yield (S := fun _ => True) (v := v3) (Or.inl ⟨by rfl, fun w' hw' => by go_simp⟩) trivial ?_
    simp only [AP]
    refine wpSeq_yield (S := fun _ => True) (v := .int .i64 (code : Int)) (Or.inl ⟨by rfl, fun w' hw' => by go_simp⟩) trivial ?_
    simp only [AP]
    refine wpSeq_yield (S := fun _ => True) (yieldsIf_assign rfl _ rfl (v3) rfl) trivial ?_
    simp only [AP]
    refine wpSeq_yield (S := fun _ => True) (yieldsIf_assign rfl _ rfl (.int .i64 (code : Int)) rfl) trivial ?_
    simp only [AP]
    refine wpSeq_nil ?_
    refine (by assumption : ∀ (a : Act) (w : World), _ → _) _ _ ?_
    have rg3 : w3.rangeAt W.heap.size 0 [.int .i64 sp, .slice p1 m c1, .slice p2 n c2] := rangeAt_below rg b3 (by have := zz; omega)
    have s3 := Lib.hid O3.sb
    have B3 := Lib.hid (Below.trans (b.out) (b3.mono (Below.size (b.out))))
    clear rg O3 C1
    go_upto_region 9 with fail
    rename_i aK
    refine wp_region_seq ?_
    refine wpSeq_yield (S := fun w' => w' = w3) (show YieldsIf _ _ _ _ (.agg #[.int .i64 sp, .slice p1 m c1, .slice p2 n c2]) _ from yieldsIf_load_mid (S := fun w' => w' = w3) rfl 31 _ rfl W.heap.size 0 rfl [.int .i64 sp, .slice p1 m c1, .slice p2 n c2] _ (fun _ h => h ▸ rg3) Try.underlying31 rfl info_hd) rfl ?_
    simp only [AP]
    refine wpSeq_yield (S := fun _ => True) (yieldsIf_move rfl _ rfl (.int .u64 (pn : Int)) rfl) trivial ?_
    simp only [AP]
    refine wpSeq_yield (S := fun _ => True) (yieldsIf_move rfl _ rfl (.int .i64 k) rfl) trivial ?_
    simp only [AP]
    refine wpSeq_yield (S := fun _ => True) (yieldsIf_move rfl _ rfl (.int .i64 z) rfl) trivial ?_
    simp only [AP]
    refine wpSeq_wp rfl ?_
    unfold Oper.wp execOp
    go_simp
    refine (C2.out w3 b3).mono ?_
    rintro _ w4 ⟨v4, rfl, O4, b4⟩
    replace s3 := s3.out.below b4
    have s4 := O4.sb
    replace B3 := Lib.hid (B3.out.trans (b4.mono B3.out.size))
    clear O4 b4 C2 b3
    go_simp
    refine wpSeq_yield (S := fun _ => True) (yieldsIf_move rfl _ rfl (.tuple #[v4, .int .i64 (code : Int)]) rfl) trivial ?_
    simp only [AP]
    refine wpSeq_yield (S := fun _ => True) (v := v4) (Or.inl ⟨by rfl, fun w' hw' => by go_simp⟩) trivial ?_
    simp only [AP]
    refine wpSeq_yield (S := fun _ => True) (v := .int .i64 (code : Int)) (Or.inl ⟨by rfl, fun w' hw' => by go_simp⟩) trivial ?_
    simp only [AP]
    refine wpSeq_yield (S := fun _ => True) (yieldsIf_assign rfl _ rfl (v4) rfl) trivial ?_
    simp only [AP]
    refine wpSeq_yield (S := fun _ => True) (yieldsIf_assign rfl _ rfl (.int .i64 (code : Int)) rfl) trivial ?_
    simp only [AP]
    refine wpSeq_nil ?_
    refine (by assumption : ∀ (a : Act) (w : World), _ → _) _ _ ?_
    clear rg3
    go_upto_region 10 with fail
    rename_i aK
    refine wp_region_seq ?_
    refine wpSeq_yield (S := fun _ => True) (yieldsIf_move rfl _ rfl (.int .i64 (code : Int)) rfl) trivial ?_
    simp only [AP]
    refine wpSeq_yield (S := fun _ => True) (yieldsIf_move rfl _ rfl (.int .i64 (code : Int)) rfl) trivial ?_
    simp only [AP]
    refine wpSeq_yield (S := fun _ => True) (v := .bool true) (Or.inl ⟨by rfl, fun w' hw' => by go_simp⟩) trivial ?_
    simp only [AP]
    refine wpSeq_yield (S := fun _ => True) (yieldsIf_move rfl _ rfl (.bool true) rfl) trivial ?_
    simp only [AP]
    refine wpSeq_yield (S := fun _ => True) (yieldsIf_move rfl _ rfl (v3) rfl) trivial ?_
    simp only [AP]
    refine wpSeq_yield (S := fun w' => w' = w4) (yieldsIf_conv (S := fun w' => w' = w4) rfl _ rfl (v3) rfl bs (fun w' h => h ▸ s3)) rfl ?_
    simp only [AP]
    refine wpSeq_yield (S := fun _ => True) (yieldsIf_move rfl _ rfl (v4) rfl) trivial ?_
    simp only [AP]
    refine wpSeq_yield (S := fun w' => w' = w4) (yieldsIf_conv (S := fun w' => w' = w4) rfl _ rfl (v4) rfl bs (fun w' h => h ▸ s4)) rfl ?_
    simp only [AP]
    refine wpSeq_yield (S := fun _ => True) (yieldsIf_strB rfl _ _ rfl bs bs rfl rfl rfl) trivial ?_
    simp only [AP]
    refine wpSeq_yield (S := fun _ => True) (yieldsIf_pick rfl _ _ _ rfl true rfl (.bool true) rfl) trivial ?_
    simp only [AP]
    refine wpSeq_yield (S := fun _ => True) (yieldsIf_assign rfl _ rfl (.bool true) rfl) trivial ?_
    simp only [AP]
    refine wpSeq_nil ?_
    refine (by assumption : ∀ (a : Act) (w : World), _ → _) _ _ ?_
    go_wp2
    go_ret
    exact ⟨rfl, B3.out⟩
  | true =>
    go_upto_region 5 with fail
    rename_i aK
    refine wp_region_seq ?_
    refine wpSeq_yield (S := fun _ => True) (yieldsIf_move rfl _ rfl (.bool true) rfl) trivial ?_
    simp only [AP]
    refine wpSeq_nil ?_
    refine (by assumption : ∀ (a : Act) (w : World), _ → _) _ _ ?_
    clear x1 x2
    go_upto_region 6 with fail
    rename_i KK aK
    have AK : ∀ (e0 v3 e6 v9 : Value) (g4 c4 g5 c5 : Nat) (w' : World), Named W sp (pad8 to) (pad8 fr) (.slice (some ⟨g4, 0, none⟩) 8 c4) (.slice (some ⟨g5, 0, none⟩) 8 c5) w' → KK { tmps := #[.agg #[.int .i64 sp, .slice p1 m c1, .slice p2 n c2], .int .u64 (pn : Int), .int .i64 k, .int .i64 z, .bool true, .pointer (some ⟨W.heap.size, 0, none⟩), undef, undef, undef, undef, .bool false, undef, undef, undef, undef, .bool true, .bool false, .pointer (some ⟨W.heap.size, 1, none⟩), .slice p1 m c1, .int .i64 (m : Int), .bool false, .bool false, .pointer (some ⟨W.heap.size, 2, none⟩), .slice p2 n c2, .int .i64 (n : Int), .bool false, .bool false, .bool true, e0, .pointer (some ⟨W.heap.size, 1, none⟩), .slice p1 m c1, v3, .slice (some ⟨g4, 0, none⟩) (m + 8) c4, .slice (some ⟨g4, 0, none⟩) 8 c4, e6, .pointer (some ⟨W.heap.size, 2, none⟩), .slice p2 n c2, v9, .slice (some ⟨g5, 0, none⟩) (n + 8) c5, .slice (some ⟨g5, 0, none⟩) 8 c5, .pointer (some ⟨W.heap.size, 1, none⟩), .pointer (some ⟨W.heap.size, 2, none⟩), undef, undef, undef, undef, undef, undef, undef, undef, undef, undef, undef, undef, undef, undef, undef, undef, undef, undef, undef, undef, undef, undef, undef, undef, undef, undef, undef, undef, undef, undef, undef, undef, undef, undef, undef, undef, undef, undef, undef, undef, undef], defers := [] } w' := by
      intro e0 v3 e6 v9 g4 c4 g5 c5 w6 NM
      refine aK _ _ ?_
      clear aK K h1 h2 b zz
      obtain ⟨u, hu⟩ := Int.eq_ofNat_of_zero_le (show 0 ≤ IntKind.u64.wrap sp by rw [IntKind.wrap_u64]; omega)
      obtain ⟨uk, huk⟩ := Int.eq_ofNat_of_zero_le (show 0 ≤ IntKind.u64.wrap k by rw [IntKind.wrap_u64]; omega)
      obtain ⟨uz, huz⟩ := Int.eq_ofNat_of_zero_le (show 0 ≤ IntKind.u64.wrap z by rw [IntKind.wrap_u64]; omega)
      obtain ⟨sx, hs3⟩ : ∃ sx, u % 3 = sx := ⟨_, rfl⟩
      obtain ⟨q, hq⟩ : ∃ q, uk % 4 = q := ⟨_, rfl⟩
      obtain ⟨k9, hk9⟩ : ∃ k9, 1 + q = k9 := ⟨_, rfl⟩
      obtain ⟨z9, hz9⟩ : ∃ z9, uz % 1201 = z9 := ⟨_, rfl⟩
      have a_u : (u : Int).tmod 3 = (sx : Int) := by rw [Int.tmod_eq_emod_of_nonneg (by omega)]; omega
      have b_u : IntKind.u64.wrap (sx : Int) = (sx : Int) := by rw [IntKind.wrap_u64]; omega
      have c_u : IntKind.i64.wrap (sx : Int) = (sx : Int) := by rw [IntKind.wrap_i64]; omega
      have a_uk : (uk : Int).tmod 4 = (q : Int) := by rw [Int.tmod_eq_emod_of_nonneg (by omega)]; omega
      have b_uk : IntKind.u64.wrap (q : Int) = (q : Int) := by rw [IntKind.wrap_u64]; omega
      have c_uk : IntKind.i64.wrap (q : Int) = (q : Int) := by rw [IntKind.wrap_i64]; omega
      have a_uz : (uz : Int).tmod 1201 = (z9 : Int) := by rw [Int.tmod_eq_emod_of_nonneg (by omega)]; omega
      have b_uz : IntKind.u64.wrap (z9 : Int) = (z9 : Int) := by rw [IntKind.wrap_u64]; omega
      have c_uz : IntKind.i64.wrap (z9 : Int) = (z9 : Int) := by rw [IntKind.wrap_i64]; omega
      have d9 : IntKind.i64.wrap (1 + (q : Int)) = (k9 : Int) := by rw [IntKind.wrap_i64]; omega
      have RR := Lib.hid (show sx ≤ 2 ∧ 1 ≤ k9 ∧ k9 ≤ 4 ∧ z9 ≤ 1200 by omega)
      clear hs3 hq hk9 hz9
      have y0 : w6.cell? ⟨W.heap.size, 0, none⟩ = some (.int .i64 sp) := NM.blk.cell 0
      have y1 := NM.blk.frozen 0
      go_upto_region 7 with fail
      rename_i aK
      refine wp_region_seq ?_
      refine wpSeq_yield (S := fun _ => True) (v := .pointer (some ⟨W.heap.size, 0, none⟩)) (Or.inl ⟨by rfl, fun w' hw' => by go_simp⟩) trivial ?_
      simp only [AP]
      refine wpSeq_yield (S := fun w' => w' = w6) (v := .int .i64 sp) (Or.inl ⟨by rfl, fun w' hw' => by (rw [hw']; go_simp)⟩) rfl ?_
      simp only [AP]
      refine wpSeq_yield (S := fun _ => True) (v := .int .u64 (u : Int)) (Or.inl ⟨by rfl, fun w' hw' => by go_simp⟩) trivial ?_
      simp only [AP]
      refine wpSeq_yield (S := fun _ => True) (v := .int .u64 (sx : Int)) (Or.inl ⟨by rfl, fun w' hw' => by (go_simp; try omega)⟩) trivial ?_
      simp only [AP]
      refine wpSeq_yield (S := fun _ => True) (v := .int .i64 (sx : Int)) (Or.inl ⟨by rfl, fun w' hw' => by go_simp⟩) trivial ?_
      simp only [AP]
      refine wpSeq_yield (S := fun _ => True) (yieldsIf_move rfl _ rfl (.int .i64 k) rfl) trivial ?_
      simp only [AP]
      refine wpSeq_yield (S := fun _ => True) (v := .int .u64 (uk : Int)) (Or.inl ⟨by rfl, fun w' hw' => by go_simp⟩) trivial ?_
      simp only [AP]
      refine wpSeq_yield (S := fun _ => True) (v := .int .u64 (q : Int)) (Or.inl ⟨by rfl, fun w' hw' => by (go_simp; try omega)⟩) trivial ?_
      simp only [AP]
      refine wpSeq_yield (S := fun _ => True) (v := .int .i64 (q : Int)) (Or.inl ⟨by rfl, fun w' hw' => by go_simp⟩) trivial ?_
      simp only [AP]
      refine wpSeq_yield (S := fun _ => True) (v := .int .i64 (k9 : Int)) (Or.inl ⟨by rfl, fun w' hw' => by go_simp⟩) trivial ?_
      simp only [AP]
      refine wpSeq_yield (S := fun _ => True) (yieldsIf_move rfl _ rfl (.int .i64 z) rfl) trivial ?_
      simp only [AP]
      refine wpSeq_yield (S := fun _ => True) (v := .int .u64 (uz : Int)) (Or.inl ⟨by rfl, fun w' hw' => by go_simp⟩) trivial ?_
      simp only [AP]
      refine wpSeq_yield (S := fun _ => True) (v := .int .u64 (z9 : Int)) (Or.inl ⟨by rfl, fun w' hw' => by (go_simp; try omega)⟩) trivial ?_
      simp only [AP]
      refine wpSeq_yield (S := fun _ => True) (v := .int .i64 (z9 : Int)) (Or.inl ⟨by rfl, fun w' hw' => by go_simp⟩) trivial ?_
      simp only [AP]
      refine wpSeq_yield (S := fun _ => True) (v := .pointer (some ⟨W.heap.size, 0, none⟩)) (Or.inl ⟨by rfl, fun w' hw' => by go_simp⟩) trivial ?_
      simp only [AP]
      refine wpSeq_wp rfl ?_
      unfold Oper.wp execOp
      go_simp
      refine wpSeq_yield (S := fun _ => True) (yieldsIf_assign rfl _ rfl (.int .i64 (k9 : Int)) rfl) trivial ?_
      simp only [AP]
      refine wpSeq_yield (S := fun _ => True) (yieldsIf_assign rfl _ rfl (.int .i64 (z9 : Int)) rfl) trivial ?_
      simp only [AP]
      refine wpSeq_nil ?_
      refine (by assumption : ∀ (a : Act) (w : World), _ → _) _ _ ?_
      have NM7 : Named W (sx : Int) (pad8 to) (pad8 fr) (.slice (some ⟨g4, 0, none⟩) 8 c4) (.slice (some ⟨g5, 0, none⟩) 8 c5) (w6.setCell ⟨W.heap.size, 0, none⟩ (.int .i64 (sx : Int))) := NM.space _
      clear NM y0 y1 a_u b_u c_u a_uk b_uk c_uk a_uz b_uz c_uz d9 hu huk huz
      have NM := NM7
      clear NM7
      generalize World.setCell w6 _ _ = w7 at *
      obtain ⟨pf, hpf⟩ : ∃ pf, putF (sx : Int) (pad8 to) (pad8 fr) pn (k9 : Int) (z9 : Int) = pf := ⟨_, rfl⟩
      have C1 := Lib.hid (PC.out (sx : Int) (pad8 to) (pad8 fr) (k9 : Int) (z9 : Int) (.slice (some ⟨g4, 0, none⟩) 8 c4) (.slice (some ⟨g5, 0, none⟩) 8 c5) w7 (by unfold i64_ok; have := RR.out; omega) (by unfold i64_ok; have := RR.out; omega) (by unfold i64_ok; have := RR.out; omega) (pad8_bytes BB.out.1) (pad8_bytes BB.out.2) (by rw [pad8_length]; decide) (by rw [pad8_length]; decide) NM.to_ NM.fr_)
      have C2 := Lib.hid (fun W' (b' : Below w7.heap.size w7 W') => RC.out (sx : Int) (pad8 to) (pad8 fr) (k9 : Int) (z9 : Int) (.slice (some ⟨g4, 0, none⟩) 8 c4) (.slice (some ⟨g5, 0, none⟩) 8 c5) W' (by rw [pad8_length]; decide) (by rw [pad8_length]; decide) (SB.below NM.to_ b') (SB.below NM.fr_ b'))
      unfold PutPost at C1 C2
      rw [hpf] at C1
      simp only [hpf] at C2
      clear hpf PC RC
      obtain ⟨code, bs⟩ := pf
      dsimp only at C1 C2
      have rg : w7.rangeAt W.heap.size 0 [.int .i64 (sx : Int), .slice (some ⟨g4, 0, none⟩) 8 c4, .slice (some ⟨g5, 0, none⟩) 8 c5] := blk_range NM.blk
      go_upto_region 8 with fail
      rename_i aK
      refine wp_region_seq ?_
      refine wpSeq_yield (S := fun w' => w' = w7) (show YieldsIf _ _ _ _ (.agg #[.int .i64 (sx : Int), .slice (some ⟨g4, 0, none⟩) 8 c4, .slice (some ⟨g5, 0, none⟩) 8 c5]) _ from yieldsIf_load_mid (S := fun w' => w' = w7) rfl 31 _ rfl W.heap.size 0 rfl [.int .i64 (sx : Int), .slice (some ⟨g4, 0, none⟩) 8 c4, .slice (some ⟨g5, 0, none⟩) 8 c5] _ (fun _ h => h ▸ rg) Try.underlying31 rfl info_hd) rfl ?_
      simp only [AP]
      refine wpSeq_yield (S := fun _ => True) (yieldsIf_move rfl _ rfl (.int .u64 (pn : Int)) rfl) trivial ?_
      simp only [AP]
      refine wpSeq_yield (S := fun _ => True) (yieldsIf_move rfl _ rfl (.int .i64 (k9 : Int)) rfl) trivial ?_
      simp only [AP]
      refine wpSeq_yield (S := fun _ => True) (yieldsIf_move rfl _ rfl (.int .i64 (z9 : Int)) rfl) trivial ?_
      simp only [AP]
      refine wpSeq_wp rfl ?_
      unfold Oper.wp execOp
      go_simp
      refine C1.out.mono ?_
      rintro _ w3 ⟨v3, rfl, O3, b3⟩
      go_simp
      refine wpSeq_yield (S := fun _ => True) (yieldsIf_move rfl _ rfl (.tuple #[v3, .int .i64 (code : Int)]) rfl) trivial ?_
      simp only [AP]
      refine wpSeq_yield (S := fun _ => True) (v := v3) (Or.inl ⟨by rfl, fun w' hw' => by go_simp⟩) trivial ?_
      simp only [AP]
      refine wpSeq_yield (S := fun _ => True) (v := .int .i64 (code : Int)) (Or.inl ⟨by rfl, fun w' hw' => by go_simp⟩) trivial ?_
      simp only [AP]
      refine wpSeq_yield (S := fun _ => True) (yieldsIf_assign rfl _ rfl (v3) rfl) trivial ?_
      simp only [AP]
      refine wpSeq_yield (S := fun _ => True) (yieldsIf_assign rfl _ rfl (.int .i64 (code : Int)) rfl) trivial ?_
      simp only [AP]
      refine wpSeq_nil ?_
      refine (by assumption : ∀ (a : Act) (w : World), _ → _) _ _ ?_
      have rg3 : w3.rangeAt W.heap.size 0 [.int .i64 (sx : Int), .slice (some ⟨g4, 0, none⟩) 8 c4, .slice (some ⟨g5, 0, none⟩) 8 c5] := rangeAt_below rg b3 (by have := Named.lt NM; omega)
      have s3 := Lib.hid O3.sb
      have B3 := Lib.hid (Below.trans (NM.bel) (b3.mono (Below.size (NM.bel))))
      clear rg O3 C1
      go_upto_region 9 with fail
      rename_i aK
      refine wp_region_seq ?_
      refine wpSeq_yield (S := fun w' => w' = w3) (show YieldsIf _ _ _ _ (.agg #[.int .i64 (sx : Int), .slice (some ⟨g4, 0, none⟩) 8 c4, .slice (some ⟨g5, 0, none⟩) 8 c5]) _ from yieldsIf_load_mid (S := fun w' => w' = w3) rfl 31 _ rfl W.heap.size 0 rfl [.int .i64 (sx : Int), .slice (some ⟨g4, 0, none⟩) 8 c4, .slice (some ⟨g5, 0, none⟩) 8 c5] _ (fun _ h => h ▸ rg3) Try.underlying31 rfl info_hd) rfl ?_
      simp only [AP]
      refine wpSeq_yield (S := fun _ => True) (yieldsIf_move rfl _ rfl (.int .u64 (pn : Int)) rfl) trivial ?_
      simp only [AP]
      refine wpSeq_yield (S := fun _ => True) (yieldsIf_move rfl _ rfl (.int .i64 (k9 : Int)) rfl) trivial ?_
      simp only [AP]
      refine wpSeq_yield (S := fun _ => True) (yieldsIf_move rfl _ rfl (.int .i64 (z9 : Int)) rfl) trivial ?_
      simp only [AP]
      refine wpSeq_wp rfl ?_
      unfold Oper.wp execOp
      go_simp
      refine (C2.out w3 b3).mono ?_
      rintro _ w4 ⟨v4, rfl, O4, b4⟩
      replace s3 := s3.out.below b4
      have s4 := O4.sb
      replace B3 := Lib.hid (B3.out.trans (b4.mono B3.out.size))
      clear O4 b4 C2 b3
      go_simp
      refine wpSeq_yield (S := fun _ => True) (yieldsIf_move rfl _ rfl (.tuple #[v4, .int .i64 (code : Int)]) rfl) trivial ?_
      simp only [AP]
      refine wpSeq_yield (S := fun _ => True) (v := v4) (Or.inl ⟨by rfl, fun w' hw' => by go_simp⟩) trivial ?_
      simp only [AP]
      refine wpSeq_yield (S := fun _ => True) (v := .int .i64 (code : Int)) (Or.inl ⟨by rfl, fun w' hw' => by go_simp⟩) trivial ?_
      simp only [AP]
      refine wpSeq_yield (S := fun _ => True) (yieldsIf_assign rfl _ rfl (v4) rfl) trivial ?_
      simp only [AP]
      refine wpSeq_yield (S := fun _ => True) (yieldsIf_assign rfl _ rfl (.int .i64 (code : Int)) rfl) trivial ?_
      simp only [AP]
      refine wpSeq_nil ?_
      refine (by assumption : ∀ (a : Act) (w : World), _ → _) _ _ ?_
      clear rg3
      go_upto_region 10 with fail
      rename_i aK
      refine wp_region_seq ?_
      refine wpSeq_yield (S := fun _ => True) (yieldsIf_move rfl _ rfl (.int .i64 (code : Int)) rfl) trivial ?_
      simp only [AP]
      refine wpSeq_yield (S := fun _ => True) (yieldsIf_move rfl _ rfl (.int .i64 (code : Int)) rfl) trivial ?_
      simp only [AP]
      refine wpSeq_yield (S := fun _ => True) (v := .bool true) (Or.inl ⟨by rfl, fun w' hw' => by go_simp⟩) trivial ?_
      simp only [AP]
      refine wpSeq_yield (S := fun _ => True) (yieldsIf_move rfl _ rfl (.bool true) rfl) trivial ?_
      simp only [AP]
      refine wpSeq_yield (S := fun _ => True) (yieldsIf_move rfl _ rfl (v3) rfl) trivial ?_
      simp only [AP]
      refine wpSeq_yield (S := fun w' => w' = w4) (yieldsIf_conv (S := fun w' => w' = w4) rfl _ rfl (v3) rfl bs (fun w' h => h ▸ s3)) rfl ?_
      simp only [AP]
      refine wpSeq_yield (S := fun _ => True) (yieldsIf_move rfl _ rfl (v4) rfl) trivial ?_
      simp only [AP]
      refine wpSeq_yield (S := fun w' => w' = w4) (yieldsIf_conv (S := fun w' => w' = w4) rfl _ rfl (v4) rfl bs (fun w' h => h ▸ s4)) rfl ?_
      simp only [AP]
      refine wpSeq_yield (S := fun _ => True) (yieldsIf_strB rfl _ _ rfl bs bs rfl rfl rfl) trivial ?_
      simp only [AP]
      refine wpSeq_yield (S := fun _ => True) (yieldsIf_pick rfl _ _ _ rfl true rfl (.bool true) rfl) trivial ?_
      simp only [AP]
      refine wpSeq_yield (S := fun _ => True) (yieldsIf_assign rfl _ rfl (.bool true) rfl) trivial ?_
      simp only [AP]
      refine wpSeq_nil ?_
      refine (by assumption : ∀ (a : Act) (w : World), _ → _) _ _ ?_
      go_wp2
      go_ret
      exact ⟨rfl, B3.out⟩
    clear aK PC RC
    refine wp_region_Z (S := fun w' => Below W2.heap.size W2 w') 13 (by kernel_rfl) ?_
    have bd := below_drew (Below.refl W2.heap.size W2)
    generalize W2.drew = W3 at *
    refine wpAnyZ_takeL 1 (v := .pointer (some ⟨W.heap.size, 1, none⟩)) rfl (by kernel_rfl) (by kernel_rfl) (by kernel_rfl) (by kernel_rfl) (by kernel_rfl) (fun _ _ _ H => H) (Or.inl ⟨by rfl, fun w' hw' => by go_simp⟩) bd ?_
    simp only [AP]
    refine wpAnyZ_takeL 2 (v := .slice p1 m c1) rfl (by kernel_rfl) (by kernel_rfl) (by kernel_rfl) (by kernel_rfl) (by kernel_rfl) (fun _ _ _ H => H) (Or.inl ⟨by rfl, fun w' hw' => by (have x : w'.cell? ⟨W.heap.size, 1, none⟩ = some (.slice p1 m c1) := (K.out.below' hw').cell 1; go_simp)⟩) bd ?_
    simp only [AP]
    refine wpAnyZ_takeL 7 (v := .pointer (some ⟨W.heap.size, 2, none⟩)) rfl (by kernel_rfl) (by kernel_rfl) (by kernel_rfl) (by kernel_rfl) (by kernel_rfl) (fun _ _ _ H => H) (Or.inl ⟨by rfl, fun w' hw' => by go_simp⟩) bd ?_
    simp only [AP]
    refine wpAnyZ_takeL 8 (v := .slice p2 n c2) rfl (by kernel_rfl) (by kernel_rfl) (by kernel_rfl) (by kernel_rfl) (by kernel_rfl) (fun _ _ _ H => H) (Or.inl ⟨by rfl, fun w' hw' => by (have x : w'.cell? ⟨W.heap.size, 2, none⟩ = some (.slice p2 n c2) := (K.out.below' hw').cell 2; go_simp)⟩) bd ?_
    simp only [AP]
    refine zsteps 0 6 rfl rfl (by kernel_rfl) rfl rfl ?_ ?_
    · skip
      have O1 := Own1.build W2.heap.size W3 bd.size
      have b1 := bd.alloc bd.size (.cells #[] 5)
      skip
      refine (wp_build_run _ rfl _ _ (run_buildSlice_none _) ⟨fun _ => b1, ?_⟩)
      simp only [AP]
      obtain ⟨e1, he1⟩ : ∃ e, Value.slice (some ⟨W3.heap.size, 0, none⟩) 0 0 = e := ⟨_, rfl⟩
      rw [he1] at O1 ⊢
      generalize World.alloc W3 _ = w1 at *
      refine zsteps 3 6 rfl rfl (by kernel_rfl) rfl rfl ?_ ?_
      · skip
        obtain ⟨v2, w2, hr2, O2, b2⟩ := own1_bytes 29 (.slice p1 m c1) _ O1 (h1.out.below b1) (by have := MN.out; (try simp only [List.length_nil]); omega) b1 b1.size
        rw [List.nil_append] at O2
        refine (wp_append_run _ _ _ _ rfl _ _ rfl rfl _ w2 hr2 ⟨fun _ => b2, ?_⟩)
        simp only [AP]
        clear hr2
        refine zsteps 4 6 rfl rfl (by kernel_rfl) rfl rfl ?_ ?_
        · skip
          obtain ⟨v3, w3, hr3, O3, b3⟩ := own1_noughts 29 8 (by decide) (by decide) O2 (by have := MN.out; (try simp only [List.length_nil, List.length_append, List.length_replicate]); omega) b2 b2.size
          obtain ⟨g4, c4, hv, _, hc4, _⟩ := (O3).slice
          rw [List.length_append, List.length_replicate, MN.out.1] at hv hc4
          subst hv
          refine (wp_append_run _ _ _ _ rfl _ _ rfl rfl _ w3 hr3 ⟨fun _ => b3, ?_⟩)
          simp only [AP]
          clear hr3
          refine wpAnyZ_takeL 5 (v := .slice (some ⟨g4, 0, none⟩) 8 c4) rfl (by kernel_rfl) (by kernel_rfl) (by kernel_rfl) (by kernel_rfl) (by kernel_rfl) (fun _ _ _ H => H) (Or.inl ⟨by rfl, fun w' hw' => by (have q1 : (8 : Int) ≤ (c4 : Int) := (by omega); go_simp)⟩) b3 ?_
          simp only [AP]
          refine wpAnyZ_takeL 12 (v := .pointer (some ⟨W.heap.size, 1, none⟩)) rfl (by kernel_rfl) (by kernel_rfl) (by kernel_rfl) (by kernel_rfl) (by kernel_rfl) (fun _ _ _ H => H) (Or.inl ⟨by rfl, fun w' hw' => by go_simp⟩) b3 ?_
          simp only [AP]
          have O4 := Own1.two O3 b3.size
          have b4 := b3.alloc b3.size (.cells #[] 5)
          skip
          refine zstep 6 rfl (by kernel_rfl) rfl (wp_build_run _ rfl _ _ (run_buildSlice_none _) ⟨fun _ => b4, ?_⟩)
          simp only [AP]
          obtain ⟨e4, he4⟩ : ∃ e, Value.slice (some ⟨w3.heap.size, 0, none⟩) 0 0 = e := ⟨_, rfl⟩
          rw [he4] at O4 ⊢
          generalize World.alloc w3 _ = w4 at *
          obtain ⟨v5, w5, hr5, O5, b5⟩ := own2_bytes 29 (.slice p2 n c2) _ O4.swap (h2.out.below b4) (by have := MN.out; (try simp only [List.length_nil]); omega) b4 b4.size
          rw [List.nil_append] at O5
          refine zstep 9 rfl (by kernel_rfl) rfl (wp_append_run _ _ _ _ rfl _ _ rfl rfl _ w5 hr5 ⟨fun _ => b5, ?_⟩)
          simp only [AP]
          clear hr5
          obtain ⟨v6, w6, hr6, O6, b6⟩ := own2_noughts 29 8 (by decide) (by decide) O5 (by have := MN.out; (try simp only [List.length_nil, List.length_append, List.length_replicate]); omega) b5 b5.size
          obtain ⟨g5, c5, hv, _, hc5, _⟩ := (O6.fst).slice
          rw [List.length_append, List.length_replicate, MN.out.2] at hv hc5
          subst hv
          refine zstep 10 rfl (by kernel_rfl) rfl (wp_append_run _ _ _ _ rfl _ _ rfl rfl _ w6 hr6 ⟨fun _ => b6, ?_⟩)
          simp only [AP]
          clear hr6
          have NM := named_of K.out b.out zz b6 O6.swap (by omega) (by omega)
          have KW := K.out.below' b6
          have f1 := KW.frozen 1
          have f2 := KW.frozen 2
          have y1 : w6.cell? ⟨W.heap.size, 1, none⟩ = some (.slice p1 m c1) := KW.cell 1
          have y2 : (w6.setCell ⟨W.heap.size, 1, none⟩ (.slice (some ⟨g4, 0, none⟩) 8 c4)).cell? ⟨W.heap.size, 2, none⟩ = some (.slice p2 n c2) := (KW.set 1 _).cell 2
          have f3 := (KW.set 1 (.slice (some ⟨g4, 0, none⟩) 8 c4)).frozen 2
          have q1 : (8 : Int) ≤ (c5 : Int) := by omega
          refine zsteps 11 13 rfl rfl (by kernel_rfl) rfl rfl ?_ ?_
          · skip
            unfold Oper.wp execOp
            go_simp
            refine zstep 13 rfl (by kernel_rfl) rfl ?_
            unfold Oper.wp execOp
            go_simp
            refine zstep 14 rfl (by kernel_rfl) rfl ?_
            unfold Oper.wp execOp
            go_simp
            refine zstep 15 rfl (by kernel_rfl) rfl ?_
            unfold Oper.wp execOp
            go_simp
            refine wpAnyZ_done (by kernel_rfl) ?_ _
            exact AK e1 v2 e4 v5 _ _ _ _ _ NM
          · skip
            unfold Oper.wp execOp
            go_simp
            refine zstep 11 rfl (by kernel_rfl) rfl ?_
            unfold Oper.wp execOp
            go_simp
            refine zstep 14 rfl (by kernel_rfl) rfl ?_
            unfold Oper.wp execOp
            go_simp
            refine zstep 15 rfl (by kernel_rfl) rfl ?_
            unfold Oper.wp execOp
            go_simp
            refine wpAnyZ_done (by kernel_rfl) ?_ _
            exact AK e1 v2 e4 v5 _ _ _ _ _ NM
        · skip
          have O7 := Own1.two O2 b2.size
          have b7 := b2.alloc b2.size (.cells #[] 5)
          skip
          refine (wp_build_run _ rfl _ _ (run_buildSlice_none _) ⟨fun _ => b7, ?_⟩)
          simp only [AP]
          obtain ⟨e7, he7⟩ : ∃ e, Value.slice (some ⟨w2.heap.size, 0, none⟩) 0 0 = e := ⟨_, rfl⟩
          rw [he7] at O7 ⊢
          generalize World.alloc w2 _ = w7 at *
          obtain ⟨v8, w8, hr8, O8, b8⟩ := own2_noughts 29 8 (by decide) (by decide) O7 (by have := MN.out; (try simp only [List.length_nil, List.length_append, List.length_replicate]); omega) b7 b7.size
          obtain ⟨g4, c4, hv, _, hc4, _⟩ := (O8.fst).slice
          rw [List.length_append, List.length_replicate, MN.out.1] at hv hc4
          subst hv
          refine zstep 4 rfl (by kernel_rfl) rfl (wp_append_run _ _ _ _ rfl _ _ rfl rfl _ w8 hr8 ⟨fun _ => b8, ?_⟩)
          simp only [AP]
          clear hr8
          refine wpAnyZ_takeL 5 (v := .slice (some ⟨g4, 0, none⟩) 8 c4) rfl (by kernel_rfl) (by kernel_rfl) (by kernel_rfl) (by kernel_rfl) (by kernel_rfl) (fun _ _ _ H => H) (Or.inl ⟨by rfl, fun w' hw' => by (have q1 : (8 : Int) ≤ (c4 : Int) := (by omega); go_simp)⟩) b8 ?_
          simp only [AP]
          refine wpAnyZ_takeL 12 (v := .pointer (some ⟨W.heap.size, 1, none⟩)) rfl (by kernel_rfl) (by kernel_rfl) (by kernel_rfl) (by kernel_rfl) (by kernel_rfl) (fun _ _ _ H => H) (Or.inl ⟨by rfl, fun w' hw' => by go_simp⟩) b8 ?_
          simp only [AP]
          obtain ⟨v9, w9, hr9, O9, b9⟩ := own2_bytes 29 (.slice p2 n c2) _ O8.swap (h2.out.below b8) (by have := MN.out; (try simp only [List.length_nil]); omega) b8 b8.size
          rw [List.nil_append] at O9
          refine zstep 9 rfl (by kernel_rfl) rfl (wp_append_run _ _ _ _ rfl _ _ rfl rfl _ w9 hr9 ⟨fun _ => b9, ?_⟩)
          simp only [AP]
          clear hr9
          obtain ⟨v10, w10, hr10, O10, b10⟩ := own2_noughts 29 8 (by decide) (by decide) O9 (by have := MN.out; (try simp only [List.length_nil, List.length_append, List.length_replicate]); omega) b9 b9.size
          obtain ⟨g5, c5, hv, _, hc5, _⟩ := (O10.fst).slice
          rw [List.length_append, List.length_replicate, MN.out.2] at hv hc5
          subst hv
          refine zstep 10 rfl (by kernel_rfl) rfl (wp_append_run _ _ _ _ rfl _ _ rfl rfl _ w10 hr10 ⟨fun _ => b10, ?_⟩)
          simp only [AP]
          clear hr10
          have NM := named_of K.out b.out zz b10 O10.swap (by omega) (by omega)
          have KW := K.out.below' b10
          have f1 := KW.frozen 1
          have f2 := KW.frozen 2
          have y1 : w10.cell? ⟨W.heap.size, 1, none⟩ = some (.slice p1 m c1) := KW.cell 1
          have y2 : (w10.setCell ⟨W.heap.size, 1, none⟩ (.slice (some ⟨g4, 0, none⟩) 8 c4)).cell? ⟨W.heap.size, 2, none⟩ = some (.slice p2 n c2) := (KW.set 1 _).cell 2
          have f3 := (KW.set 1 (.slice (some ⟨g4, 0, none⟩) 8 c4)).frozen 2
          have q1 : (8 : Int) ≤ (c5 : Int) := by omega
          refine zsteps 11 13 rfl rfl (by kernel_rfl) rfl rfl ?_ ?_
          · skip
            unfold Oper.wp execOp
            go_simp
            refine zstep 13 rfl (by kernel_rfl) rfl ?_
            unfold Oper.wp execOp
            go_simp
            refine zstep 14 rfl (by kernel_rfl) rfl ?_
            unfold Oper.wp execOp
            go_simp
            refine zstep 15 rfl (by kernel_rfl) rfl ?_
            unfold Oper.wp execOp
            go_simp
            refine wpAnyZ_done (by kernel_rfl) ?_ _
            exact AK e1 v2 e7 v9 _ _ _ _ _ NM
          · skip
            unfold Oper.wp execOp
            go_simp
            refine zstep 11 rfl (by kernel_rfl) rfl ?_
            unfold Oper.wp execOp
            go_simp
            refine zstep 14 rfl (by kernel_rfl) rfl ?_
            unfold Oper.wp execOp
            go_simp
            refine zstep 15 rfl (by kernel_rfl) rfl ?_
            unfold Oper.wp execOp
            go_simp
            refine wpAnyZ_done (by kernel_rfl) ?_ _
            exact AK e1 v2 e7 v9 _ _ _ _ _ NM
      · skip
        have O11 := Own1.two O1 b1.size
        have b11 := b1.alloc b1.size (.cells #[] 5)
        skip
        refine (wp_build_run _ rfl _ _ (run_buildSlice_none _) ⟨fun _ => b11, ?_⟩)
        simp only [AP]
        obtain ⟨e11, he11⟩ : ∃ e, Value.slice (some ⟨w1.heap.size, 0, none⟩) 0 0 = e := ⟨_, rfl⟩
        rw [he11] at O11 ⊢
        generalize World.alloc w1 _ = w11 at *
        obtain ⟨v12, w12, hr12, O12, b12⟩ := own2_bytes 29 (.slice p1 m c1) _ O11 (h1.out.below b11) (by have := MN.out; (try simp only [List.length_nil]); omega) b11 b11.size
        rw [List.nil_append] at O12
        refine zstep 3 rfl (by kernel_rfl) rfl (wp_append_run _ _ _ _ rfl _ _ rfl rfl _ w12 hr12 ⟨fun _ => b12, ?_⟩)
        simp only [AP]
        clear hr12
        obtain ⟨v13, w13, hr13, O13, b13⟩ := own2_noughts 29 8 (by decide) (by decide) O12 (by have := MN.out; (try simp only [List.length_nil, List.length_append, List.length_replicate]); omega) b12 b12.size
        obtain ⟨g4, c4, hv, _, hc4, _⟩ := (O13.fst).slice
        rw [List.length_append, List.length_replicate, MN.out.1] at hv hc4
        subst hv
        refine zstep 4 rfl (by kernel_rfl) rfl (wp_append_run _ _ _ _ rfl _ _ rfl rfl _ w13 hr13 ⟨fun _ => b13, ?_⟩)
        simp only [AP]
        clear hr13
        refine wpAnyZ_takeL 5 (v := .slice (some ⟨g4, 0, none⟩) 8 c4) rfl (by kernel_rfl) (by kernel_rfl) (by kernel_rfl) (by kernel_rfl) (by kernel_rfl) (fun _ _ _ H => H) (Or.inl ⟨by rfl, fun w' hw' => by (have q1 : (8 : Int) ≤ (c4 : Int) := (by omega); go_simp)⟩) b13 ?_
        simp only [AP]
        refine wpAnyZ_takeL 12 (v := .pointer (some ⟨W.heap.size, 1, none⟩)) rfl (by kernel_rfl) (by kernel_rfl) (by kernel_rfl) (by kernel_rfl) (by kernel_rfl) (fun _ _ _ H => H) (Or.inl ⟨by rfl, fun w' hw' => by go_simp⟩) b13 ?_
        simp only [AP]
        obtain ⟨v14, w14, hr14, O14, b14⟩ := own2_bytes 29 (.slice p2 n c2) _ O13.swap (h2.out.below b13) (by have := MN.out; (try simp only [List.length_nil]); omega) b13 b13.size
        rw [List.nil_append] at O14
        refine zstep 9 rfl (by kernel_rfl) rfl (wp_append_run _ _ _ _ rfl _ _ rfl rfl _ w14 hr14 ⟨fun _ => b14, ?_⟩)
        simp only [AP]
        clear hr14
        obtain ⟨v15, w15, hr15, O15, b15⟩ := own2_noughts 29 8 (by decide) (by decide) O14 (by have := MN.out; (try simp only [List.length_nil, List.length_append, List.length_replicate]); omega) b14 b14.size
        obtain ⟨g5, c5, hv, _, hc5, _⟩ := (O15.fst).slice
        rw [List.length_append, List.length_replicate, MN.out.2] at hv hc5
        subst hv
        refine zstep 10 rfl (by kernel_rfl) rfl (wp_append_run _ _ _ _ rfl _ _ rfl rfl _ w15 hr15 ⟨fun _ => b15, ?_⟩)
        simp only [AP]
        clear hr15
        have NM := named_of K.out b.out zz b15 O15.swap (by omega) (by omega)
        have KW := K.out.below' b15
        have f1 := KW.frozen 1
        have f2 := KW.frozen 2
        have y1 : w15.cell? ⟨W.heap.size, 1, none⟩ = some (.slice p1 m c1) := KW.cell 1
        have y2 : (w15.setCell ⟨W.heap.size, 1, none⟩ (.slice (some ⟨g4, 0, none⟩) 8 c4)).cell? ⟨W.heap.size, 2, none⟩ = some (.slice p2 n c2) := (KW.set 1 _).cell 2
        have f3 := (KW.set 1 (.slice (some ⟨g4, 0, none⟩) 8 c4)).frozen 2
        have q1 : (8 : Int) ≤ (c5 : Int) := by omega
        refine zsteps 11 13 rfl rfl (by kernel_rfl) rfl rfl ?_ ?_
        · skip
          unfold Oper.wp execOp
          go_simp
          refine zstep 13 rfl (by kernel_rfl) rfl ?_
          unfold Oper.wp execOp
          go_simp
          refine zstep 14 rfl (by kernel_rfl) rfl ?_
          unfold Oper.wp execOp
          go_simp
          refine zstep 15 rfl (by kernel_rfl) rfl ?_
          unfold Oper.wp execOp
          go_simp
          refine wpAnyZ_done (by kernel_rfl) ?_ _
          exact AK e1 v12 e11 v14 _ _ _ _ _ NM
        · skip
          unfold Oper.wp execOp
          go_simp
          refine zstep 11 rfl (by kernel_rfl) rfl ?_
          unfold Oper.wp execOp
          go_simp
          refine zstep 14 rfl (by kernel_rfl) rfl ?_
          unfold Oper.wp execOp
          go_simp
          refine zstep 15 rfl (by kernel_rfl) rfl ?_
          unfold Oper.wp execOp
          go_simp
          refine wpAnyZ_done (by kernel_rfl) ?_ _
          exact AK e1 v12 e11 v14 _ _ _ _ _ NM
    · skip
      have O16 := Own1.build W2.heap.size W3 bd.size
      have b16 := bd.alloc bd.size (.cells #[] 5)
      skip
      refine (wp_build_run _ rfl _ _ (run_buildSlice_none _) ⟨fun _ => b16, ?_⟩)
      simp only [AP]
      obtain ⟨e16, he16⟩ : ∃ e, Value.slice (some ⟨W3.heap.size, 0, none⟩) 0 0 = e := ⟨_, rfl⟩
      rw [he16] at O16 ⊢
      generalize World.alloc W3 _ = w16 at *
      have O17 := Own1.two O16 b16.size
      have b17 := b16.alloc b16.size (.cells #[] 5)
      skip
      refine zstep 0 rfl (by kernel_rfl) rfl (wp_build_run _ rfl _ _ (run_buildSlice_none _) ⟨fun _ => b17, ?_⟩)
      simp only [AP]
      obtain ⟨e17, he17⟩ : ∃ e, Value.slice (some ⟨w16.heap.size, 0, none⟩) 0 0 = e := ⟨_, rfl⟩
      rw [he17] at O17 ⊢
      generalize World.alloc w16 _ = w17 at *
      obtain ⟨v18, w18, hr18, O18, b18⟩ := own2_bytes 29 (.slice p1 m c1) _ O17.swap (h1.out.below b17) (by have := MN.out; (try simp only [List.length_nil]); omega) b17 b17.size
      rw [List.nil_append] at O18
      refine zstep 3 rfl (by kernel_rfl) rfl (wp_append_run _ _ _ _ rfl _ _ rfl rfl _ w18 hr18 ⟨fun _ => b18, ?_⟩)
      simp only [AP]
      clear hr18
      obtain ⟨v19, w19, hr19, O19, b19⟩ := own2_noughts 29 8 (by decide) (by decide) O18 (by have := MN.out; (try simp only [List.length_nil, List.length_append, List.length_replicate]); omega) b18 b18.size
      obtain ⟨g4, c4, hv, _, hc4, _⟩ := (O19.fst).slice
      rw [List.length_append, List.length_replicate, MN.out.1] at hv hc4
      subst hv
      refine zstep 4 rfl (by kernel_rfl) rfl (wp_append_run _ _ _ _ rfl _ _ rfl rfl _ w19 hr19 ⟨fun _ => b19, ?_⟩)
      simp only [AP]
      clear hr19
      refine wpAnyZ_takeL 5 (v := .slice (some ⟨g4, 0, none⟩) 8 c4) rfl (by kernel_rfl) (by kernel_rfl) (by kernel_rfl) (by kernel_rfl) (by kernel_rfl) (fun _ _ _ H => H) (Or.inl ⟨by rfl, fun w' hw' => by (have q1 : (8 : Int) ≤ (c4 : Int) := (by omega); go_simp)⟩) b19 ?_
      simp only [AP]
      refine wpAnyZ_takeL 12 (v := .pointer (some ⟨W.heap.size, 1, none⟩)) rfl (by kernel_rfl) (by kernel_rfl) (by kernel_rfl) (by kernel_rfl) (by kernel_rfl) (fun _ _ _ H => H) (Or.inl ⟨by rfl, fun w' hw' => by go_simp⟩) b19 ?_
      simp only [AP]
      obtain ⟨v20, w20, hr20, O20, b20⟩ := own2_bytes 29 (.slice p2 n c2) _ O19.swap (h2.out.below b19) (by have := MN.out; (try simp only [List.length_nil]); omega) b19 b19.size
      rw [List.nil_append] at O20
      refine zstep 9 rfl (by kernel_rfl) rfl (wp_append_run _ _ _ _ rfl _ _ rfl rfl _ w20 hr20 ⟨fun _ => b20, ?_⟩)
      simp only [AP]
      clear hr20
      obtain ⟨v21, w21, hr21, O21, b21⟩ := own2_noughts 29 8 (by decide) (by decide) O20 (by have := MN.out; (try simp only [List.length_nil, List.length_append, List.length_replicate]); omega) b20 b20.size
      obtain ⟨g5, c5, hv, _, hc5, _⟩ := (O21.fst).slice
      rw [List.length_append, List.length_replicate, MN.out.2] at hv hc5
      subst hv
      refine zstep 10 rfl (by kernel_rfl) rfl (wp_append_run _ _ _ _ rfl _ _ rfl rfl _ w21 hr21 ⟨fun _ => b21, ?_⟩)
      simp only [AP]
      clear hr21
      have NM := named_of K.out b.out zz b21 O21.swap (by omega) (by omega)
      have KW := K.out.below' b21
      have f1 := KW.frozen 1
      have f2 := KW.frozen 2
      have y1 : w21.cell? ⟨W.heap.size, 1, none⟩ = some (.slice p1 m c1) := KW.cell 1
      have y2 : (w21.setCell ⟨W.heap.size, 1, none⟩ (.slice (some ⟨g4, 0, none⟩) 8 c4)).cell? ⟨W.heap.size, 2, none⟩ = some (.slice p2 n c2) := (KW.set 1 _).cell 2
      have f3 := (KW.set 1 (.slice (some ⟨g4, 0, none⟩) 8 c4)).frozen 2
      have q1 : (8 : Int) ≤ (c5 : Int) := by omega
      refine zsteps 11 13 rfl rfl (by kernel_rfl) rfl rfl ?_ ?_
      · skip
        unfold Oper.wp execOp
        go_simp
        refine zstep 13 rfl (by kernel_rfl) rfl ?_
        unfold Oper.wp execOp
        go_simp
        refine zstep 14 rfl (by kernel_rfl) rfl ?_
        unfold Oper.wp execOp
        go_simp
        refine zstep 15 rfl (by kernel_rfl) rfl ?_
        unfold Oper.wp execOp
        go_simp
        refine wpAnyZ_done (by kernel_rfl) ?_ _
        exact AK e17 v18 e16 v20 _ _ _ _ _ NM
      · skip
        unfold Oper.wp execOp
        go_simp
        refine zstep 11 rfl (by kernel_rfl) rfl ?_
        unfold Oper.wp execOp
        go_simp
        refine zstep 14 rfl (by kernel_rfl) rfl ?_
        unfold Oper.wp execOp
        go_simp
        refine zstep 15 rfl (by kernel_rfl) rfl ?_
        unfold Oper.wp execOp
        go_simp
        refine wpAnyZ_done (by kernel_rfl) ?_ _
        exact AK e17 v18 e16 v20 _ _ _ _ _ NM
end Go.Proofs.Ytfhiflakglhneaa
