/- The program's insert, walked (printed by gen17/se2.py). -/
import Derived.Test.YtnahjmladhbmpaaSe
namespace Go.Proofs.Ytnahjmladhbmpaa
open Go.RowKit

section
variable {P : Program} {md : Region.Mode} {ops : Array Oper} {Q : Exit → Act → World → Prop} {S : World → Prop}
/-- The one operation that is ready is run. -/
theorem hzstep {z fuel : Nat} {listed : Array Bool} {a : Act} {w : World} (i : Nat) {oi : Oper} (hi : ops.toList[i]? = some oi) (hr : Region.ready md ops listed = [i]) (hgd : oi.guard = none)
    (h : oi.wp P a w (fun a' w' => ((listed.setIfInBounds i true).getD z true = false → S w') ∧ wpAnyZ P md ops Q S z fuel (listed.setIfInBounds i true) a' w') Q) : wpAnyZ P md ops Q S z (fuel + 1) listed a w := by
  refine wpAnyZ_one hr ?_
  unfold wpOp
  rw [← Array.getElem?_toList, hi]
  have hw : Region.wanted oi (yielded ops a.tmps) = true := by simp [Region.wanted, hgd]
  simp only [hw, if_true]
  left
  exact h
/-- One of the two that are ready, whichever. -/
theorem hzsteps {z fuel : Nat} {listed : Array Bool} {a : Act} {w : World} (i j : Nat) {oi oj : Oper} (hi : ops.toList[i]? = some oi) (hj : ops.toList[j]? = some oj) (hr : Region.ready md ops listed = [i, j]) (gi : oi.guard = none) (gj : oj.guard = none)
    (h1 : oi.wp P a w (fun a' w' => ((listed.setIfInBounds i true).getD z true = false → S w') ∧ wpAnyZ P md ops Q S z fuel (listed.setIfInBounds i true) a' w') Q)
    (h2 : oj.wp P a w (fun a' w' => ((listed.setIfInBounds j true).getD z true = false → S w') ∧ wpAnyZ P md ops Q S z fuel (listed.setIfInBounds j true) a' w') Q) : wpAnyZ P md ops Q S z (fuel + 1) listed a w := by
  refine wpAnyZ_two hr ?_ ?_
  · unfold wpOp
    rw [← Array.getElem?_toList, hi]
    have hw : Region.wanted oi (yielded ops a.tmps) = true := by simp [Region.wanted, gi]
    simp only [hw, if_true]
    left
    exact h1
  · unfold wpOp
    rw [← Array.getElem?_toList, hj]
    have hw : Region.wanted oj (yielded ops a.tmps) = true := by simp [Region.wanted, gj]
    simp only [hw, if_true]
    left
    exact h2
end
theorem gb_of {B : Nat} {w w' : World} (h : Below B w w') (hB : w.heap.size ≤ B) (g : Nat) : w.grownBy w' (some g) := ⟨h.os, h.tape, h.output, h.size, fun i hi _ => h.block i (by omega)⟩
theorem gb_row {w w' : World} {g : Nat} (h : w.grownBy w' (some g)) (cs : Array Value) : w.grownBy (w'.setRow g cs) (some g) :=
  ⟨h.os, h.tape, h.output, by rw [setRow_size]; exact h.size, fun i hi hn => (setRow_other w' g i cs (fun e => hn (by rw [e]))).trans (h.block i hi hn)⟩
theorem gb_cell {w w' : World} {g : Nat} (h : w.grownBy w' (some g)) (o : Nat) (v : Value) : w.grownBy (w'.setCell ⟨g, o, none⟩ v) (some g) :=
  ⟨h.os, h.tape, h.output, by have := h.size; simp only [World.setCell]; split <;> simpa using this, fun i hi hn => (heap_setCell_other w' ⟨g, o, none⟩ i v (fun e => hn (by rw [e]))).trans (h.block i hi hn)⟩
theorem gb_drew {w w' : World} {g : Nat} (h : w.grownBy w' (some g)) : w.grownBy w'.drew (some g) := ⟨h.os, h.tape, h.output, h.size, h.block⟩
theorem insertIdx_app (p : Nat × Nat) (r : List (Nat × Nat)) : ∀ (l : List (Nat × Nat)) (k : Nat), k ≤ l.length → (l ++ r).insertIdx k p = l.insertIdx k p ++ r
  | [], 0, _ => rfl
  | [], k + 1, h => absurd h (Nat.not_succ_le_zero _)
  | x :: l, 0, _ => rfl
  | x :: l, k + 1, h => by
    rw [List.cons_append, List.insertIdx_succ_cons, List.insertIdx_succ_cons, insertIdx_app p r l k (by simpa using h), List.cons_append]
/-- What is laid behind a Seen's spans from a place on. -/
def dstV (g k : Nat) : Value := .slice (some ⟨g, if k + 1 = 32 then 0 else (k + 1) * 2, none⟩) (31 - k) (31 - k)
set_option maxHeartbeats 4000000 in
set_option maxRecDepth 100000 in
theorem insert_low (g k fl x y f2 : Nat) (l l2 : List (Nat × Nat)) (EL2 : Hid (l2 = (l.insertIdx k (x, y)).take 32)) (EF2 : Hid (f2 = if l.length = 32 then (l2.getD 31 (0, 0)).1 else fl)) (hk : k ≤ l.length) (hk2 : k < 32) (W : World) (h : SM W g l fl) :
    Calls Try.prog 20 #[.pointer (some ⟨g, 0, none⟩), .int .i64 (k : Int), .agg #[.int .u64 (x : Int), .int .u64 (y : Int)]] W fun e w' => (∃ u, e = .returned u) ∧ SM w' g l2 f2 ∧ W.grownBy w' (some g) := by
  have hg := h.lt
  have hl := h.len
  have b1 := (Below.refl W.heap.size W).alloc (Nat.le_refl _) (.cells #[.int .u64 (x : Int), .int .u64 (y : Int)] 26)
  have hn := (h.below b1 hg).num
  have k1 : (k : Int) < 32 := by omega
  have k0 : (0 : Int) ≤ (k : Int) := by omega
  have k2 : (0 : Int) ≤ (k : Int) + 1 := by omega
  have k3 : (k : Int) + 1 ≤ 32 := by omega
  have k4 : (k : Int) ≤ 32 := by omega
  have ww : IntKind.i64.wrap ((k : Int) + 1) = (k : Int) + 1 := by simp [IntKind.wrap, IntKind.bits, IntKind.signed]; omega
  go_enter Try.func20, Try.ntmps20
  go_upto_region 3 with fail
  rename_i aK
  refine wp_region_S (S := fun _ => True) (by kernel_rfl) ?_
  refine wpAnyS_takeL 0 (v := .pointer (some ⟨g, 0, none⟩)) rfl (by kernel_rfl) (by kernel_rfl) (by kernel_rfl) (fun _ _ _ H => H) (yieldsIf_move rfl _ rfl (.pointer (some ⟨g, 0, none⟩)) rfl) trivial ?_
  simp only [AP]
  refine wpAnyS_takeL 1 (v := .pointer (some ⟨g, 0, none⟩)) rfl (by kernel_rfl) (by kernel_rfl) (by kernel_rfl) (fun _ _ _ H => H) (Or.inl ⟨by rfl, fun w' hw' => by go_simp⟩) trivial ?_
  simp only [AP]
  refine wpAnyS_takeL 2 (v := .pointer (some ⟨g, 0, none⟩)) rfl (by kernel_rfl) (by kernel_rfl) (by kernel_rfl) (fun _ _ _ H => H) (Or.inl ⟨by rfl, fun w' hw' => by go_simp⟩) trivial ?_
  simp only [AP]
  refine wpAnyS_takeL 3 (v := .int .i64 (k : Int)) rfl (by kernel_rfl) (by kernel_rfl) (by kernel_rfl) (fun _ _ _ H => H) (yieldsIf_move rfl _ rfl (.int .i64 (k : Int)) rfl) trivial ?_
  simp only [AP]
  refine wpAnyS_takeL 4 (v := (.int .i64 ((k : Int) + 1))) rfl (by kernel_rfl) (by kernel_rfl) (by kernel_rfl) (fun _ _ _ H => H) (Or.inl ⟨by rfl, fun w' hw' => by (go_simp)⟩) trivial ?_
  simp only [AP]
  refine wpAnyS_takeL 5 (v := dstV g k) rfl (by kernel_rfl) (by kernel_rfl) (by kernel_rfl) (fun _ _ _ H => H) (Or.inl ⟨by rfl, fun w' hw' => by (by_cases hk1 : k + 1 = 32; (obtain rfl : k = 31 := by omega); (unfold dstV; go_simp); (have e2 : ¬ ((k : Int) + 1 = 32) := by omega); (have e3 : ¬ k = 31 := by omega); (have e1 : ((32 : Int) - ((k : Int) + 1)).toNat = 31 - k := by omega); (unfold dstV; rw [if_neg hk1]; go_simp))⟩) trivial ?_
  simp only [AP]
  refine wpAnyS_takeL 6 (v := .pointer (some ⟨g, 0, none⟩)) rfl (by kernel_rfl) (by kernel_rfl) (by kernel_rfl) (fun _ _ _ H => H) (yieldsIf_move rfl _ rfl (.pointer (some ⟨g, 0, none⟩)) rfl) trivial ?_
  simp only [AP]
  refine wpAnyS_takeL 7 (v := .pointer (some ⟨g, 0, none⟩)) rfl (by kernel_rfl) (by kernel_rfl) (by kernel_rfl) (fun _ _ _ H => H) (Or.inl ⟨by rfl, fun w' hw' => by go_simp⟩) trivial ?_
  simp only [AP]
  refine wpAnyS_takeL 8 (v := .pointer (some ⟨g, 0, none⟩)) rfl (by kernel_rfl) (by kernel_rfl) (by kernel_rfl) (fun _ _ _ H => H) (Or.inl ⟨by rfl, fun w' hw' => by go_simp⟩) trivial ?_
  simp only [AP]
  refine wpAnyS_takeL 9 (v := .int .i64 (k : Int)) rfl (by kernel_rfl) (by kernel_rfl) (by kernel_rfl) (fun _ _ _ H => H) (yieldsIf_move rfl _ rfl (.int .i64 (k : Int)) rfl) trivial ?_
  simp only [AP]
  refine wpAnyS_takeL 10 (v := .slice (some ⟨g, k * 2, none⟩) (32 - k) (32 - k)) rfl (by kernel_rfl) (by kernel_rfl) (by kernel_rfl) (fun _ _ _ H => H) (Or.inl ⟨by rfl, fun w' hw' => by ((have e3 : ¬ 32 = k := by omega); go_simp)⟩) trivial ?_
  simp only [AP]
  have b2 := below_drew b1
  have H2 := h.below b2 hg
  generalize hW1 : (W.alloc (.cells #[.int .u64 (x : Int), .int .u64 (y : Int)] 26)).drew = W1 at *
  have hbx : Blk W1 W.heap.size 26 #[.int .u64 (x : Int), .int .u64 (y : Int)] := by rw [← hW1]; exact (Blk.new W 26 _).drew
  obtain ⟨rest, hr, K⟩ := H2
  have hM := hr
  have hkM : k < (l ++ rest).length := by omega
  obtain ⟨W2, hrun, K2, G2⟩ : ∃ W2, (Builtin.copy_ #[39, 39] 3 #[dstV g k, .slice (some ⟨g, k * 2, none⟩) (32 - k) (32 - k)]).run Try.prog W1 = .ok (goInt (31 - k : Nat)) W2 ∧ Blk W2 g 29 (seenL ((l ++ rest).take (k + 1) ++ ((l ++ rest).drop k).take (31 - k) ++ (l ++ rest).drop 32) l.length fl).toArray ∧ W1.grownBy W2 (some g) := by
    by_cases hk1 : k = 31
    · subst hk1
      refine ⟨W1, run_copy0 W1 _ _ _ _ _ _ _ rfl, ?_, ⟨rfl, rfl, rfl, Nat.le_refl _, fun _ _ _ => rfl⟩⟩
      rw [show (31 - 31 : Nat) = 0 from rfl, List.take_zero, List.append_nil, show 31 + 1 = 32 from rfl, List.take_append_drop]
      exact K
    · have hcl : (((l ++ rest).drop k).take (31 - k)).length = 31 - k := by rw [List.length_take, List.length_drop, hM]; omega
      have hrun := run_copy2 W1 3 g ((k + 1) * 2) (31 - k) (31 - k) ⟨g, k * 2, none⟩ (32 - k) (32 - k) (31 - k) _ 29 (spC (((l ++ rest).drop k).take (31 - k))) K (Nat.min_eq_right (by omega)) (by rw [spC_length, hcl])
        (row_cs K k (31 - k) (by omega)) (by rw [spC_length, hcl, List.size_toArray, seenL_length _ _ _ hM]; omega) (spC_one _)
      refine ⟨_, by unfold dstV; rw [if_neg (by omega)]; exact hrun, ?_, gb_row ⟨rfl, rfl, rfl, Nat.le_refl _, fun _ _ _ => rfl⟩ _⟩
      have K' := Blk.row K (over (seenL (l ++ rest) l.length fl).toArray ((k + 1) * 2) (spC (((l ++ rest).drop k).take (31 - k))))
      rw [over_seen _ _ _ _ _ (by rw [hcl]; omega), hcl, show k + 1 + (31 - k) = 32 by omega] at K'
      rw [over_seen _ _ _ _ _ (by rw [hcl]; omega), hcl, show k + 1 + (31 - k) = 32 by omega]
      exact K'
  refine gstep 11 rfl rfl (by kernel_rfl) (wp_copy_run _ _ rfl _ _ rfl rfl _ W2 hrun ⟨trivial, ?_⟩)
  simp only [AP]
  refine wpAnyS_done (by kernel_rfl) ?_ _
  refine aK _ _ ?_
  clear aK hrun
  have hbx2 : Blk W2 W.heap.size 26 #[.int .u64 (x : Int), .int .u64 (y : Int)] := (G2.block W.heap.size hbx.lt (fun e => by simp only [Option.some.injEq] at e; omega)).trans hbx
  have hS : (fun w' : World => w'.rangeAt W.heap.size 0 (spL (x, y))) W2.drew := blk_range hbx2.drew
  have HM2 : ((l ++ rest).take (k + 1) ++ ((l ++ rest).drop k).take (31 - k) ++ (l ++ rest).drop 32).length = 32 := by
    simp only [List.length_append, List.length_take, List.length_drop] at hM ⊢
    omega
  have EI : ((l ++ rest).take (k + 1) ++ ((l ++ rest).drop k).take (31 - k) ++ (l ++ rest).drop 32).set k (x, y) = ins32 (l ++ rest) k (x, y) := rfl
  have LI := ins32_length (l ++ rest) k (x, y) hM hk2
  have II := ins32_is (l ++ rest) k (x, y) hM hk2
  generalize (l ++ rest).take (k + 1) ++ ((l ++ rest).drop k).take (31 - k) ++ (l ++ rest).drop 32 = M2 at *
  generalize ins32 (l ++ rest) k (x, y) = M3 at *
  have hkM2 : k < M2.length := by omega
  go_upto_region 4 with fail
  rename_i aK
  refine wp_region_S (S := fun w' => w'.rangeAt W.heap.size 0 (spL (x, y))) (by kernel_rfl) ?_
  refine wpAnyS_takeL 0 (v := .pointer (some ⟨g, 0, none⟩)) rfl (by kernel_rfl) (by kernel_rfl) (by kernel_rfl) (fun _ _ _ H => H) (yieldsIf_move rfl _ rfl (.pointer (some ⟨g, 0, none⟩)) rfl) hS ?_
  simp only [AP]
  refine wpAnyS_takeL 1 (v := .int .i64 (k : Int)) rfl (by kernel_rfl) (by kernel_rfl) (by kernel_rfl) (fun _ _ _ H => H) (yieldsIf_move rfl _ rfl (.int .i64 (k : Int)) rfl) hS ?_
  simp only [AP]
  refine wpAnyS_takeL 2 (v := .agg (spL (x, y)).toArray) rfl (by kernel_rfl) (by kernel_rfl) (by kernel_rfl) (fun _ _ _ H => H) (show YieldsIf _ _ _ _ (.agg (spL (x, y)).toArray) _ from yieldsIf_load_mid rfl 26 _ rfl W.heap.size 0 rfl (spL (x, y)) _ (fun _ hw => hw) Try.underlying26 rfl (info_spL (x, y))) hS ?_
  simp only [AP]
  refine wpAnyS_takeL 3 (v := .pointer (some ⟨g, 0, none⟩)) rfl (by kernel_rfl) (by kernel_rfl) (by kernel_rfl) (fun _ _ _ H => H) (Or.inl ⟨by rfl, fun w' hw' => by go_simp⟩) hS ?_
  simp only [AP]
  refine wpAnyS_takeL 4 (v := .pointer (some ⟨g, 0, none⟩)) rfl (by kernel_rfl) (by kernel_rfl) (by kernel_rfl) (fun _ _ _ H => H) (Or.inl ⟨by rfl, fun w' hw' => by go_simp⟩) hS ?_
  simp only [AP]
  refine wpAnyS_takeL 5 (v := .pointer (some ⟨g, k * 2, none⟩)) rfl (by kernel_rfl) (by kernel_rfl) (by kernel_rfl) (fun _ _ _ H => H) (Or.inl ⟨by rfl, fun w' hw' => by (go_simp)⟩) hS ?_
  simp only [AP]
  refine gstep 6 rfl rfl (by kernel_rfl) ?_
  refine wp_store_mid 26 _ _ rfl g (k * 2) (spL (x, y)).toArray rfl rfl ?_ (info_spL (x, y)) (by simp [spL, Value.oneCell']) ?_
  · intro j hj
    refine ⟨?_, (K2.drew).frozen _⟩
    have hj2 : j < 2 := hj
    rcases (by omega : j = 0 ∨ j = 1) with rfl | rfl
    · rw [Nat.add_zero, row_lo K2.drew k hkM2]; rfl
    · rw [row_hi K2.drew k hkM2]; rfl
  · refine ⟨World.rangeAt_setCells_apart hS _ _ _ (Or.inl (by omega)), ?_⟩
    simp only [Act.put]
    refine wpAnyS_done (by kernel_rfl) ?_ _
    refine (by assumption : ∀ (a : Act) (w : World), _ → _) _ _ ?_
    have K3 : Blk (W2.drew.setCells g (k * 2) (spL (x, y))) g 29 (seenL M3 l.length fl).toArray := by
      have e := ((K2.drew).set (k * 2) (.int .u64 (x : Int))).set (k * 2 + 1) (.int .u64 (y : Int))
      rw [seen_lo M2 _ _ k x hkM2, seen_hi _ _ _ k y (by rw [List.length_set]; exact hkM2)] at e
      rw [← EI]
      have e2 : (M2.set k (x, (M2.getD k (0, 0)).2)).set k (((M2.set k (x, (M2.getD k (0, 0)).2)).getD k (0, 0)).1, y) = M2.set k (x, y) := by
        simp [hkM2]
      rw [e2] at e
      exact e
    have G3 : W.grownBy (W2.drew.setCells g (k * 2) (spL (x, y))) (some g) := gb_cell (gb_cell (gb_drew (World.grownBy.trans (gb_of b2 (Nat.le_refl _) g) G2)) _ _) _ _
    change Code.wp _ _ _ _ (W2.drew.setCells g (k * 2) (spL (x, y)))
    generalize W2.drew.setCells g (k * 2) (spL (x, y)) = W3 at *
    clear hbx hbx2 hS K2 K
    have r0 := row_n K3 LI
    have f0 := K3.frozen 64
    have r1 := row_fl K3 LI
    have f1 := K3.frozen 65
    have r2 := row_lo K3 31 (by omega)
    by_cases hL : l.length = 32
    · have rest0 : rest = [] := List.eq_nil_of_length_eq_zero (by rw [List.length_append] at hM; omega)
      have hL' : (l.length : Int) = 32 := by omega
      have K4 := K3.set 65 (.int .u64 (((M3.getD 31 (0, 0)).1 : Nat) : Int))
      rw [seen_fl _ _ _ _ LI] at K4
      have G4 := gb_cell G3 65 (.int .u64 (((M3.getD 31 (0, 0)).1 : Nat) : Int))
      have EF := EF2.out
      rw [if_pos hL] at EF
      rw [rest0, List.append_nil, ← EL2.out] at II
      rw [← II] at EF
      have HF := Lib.hid EF
      have HI := Lib.hid II
      clear II EF
      have HK := Lib.hid K4
      clear K3 K4
      generalize (M3.getD 31 (0, 0)).1 = z at *
      have HL := Lib.hid hL
      clear hL
      go_wp2
      refine bodyPost_end (results_none rfl _ _ _) rfl ?_
      refine ⟨⟨_, rfl⟩, ?_, G4⟩
      rw [← HI.out, HF.out]
      refine ⟨[], by rw [List.append_nil]; exact LI, ?_⟩
      rw [List.append_nil, LI, ← HL.out]
      exact HK.out
    · have hL' : ¬ (l.length : Int) = 32 := by omega
      have hll : l.length < 32 := by omega
      have K4 := K3.set 64 (.int .i64 ((l.length + 1 : Nat) : Int))
      rw [seen_n _ _ _ _ LI] at K4
      have G4 := gb_cell G3 64 (.int .i64 ((l.length + 1 : Nat) : Int))
      have EF := EF2.out
      rw [if_neg hL] at EF
      have HF := Lib.hid EF
      clear EF
      have wn : IntKind.i64.wrap ((l.length : Int) + 1) = ((l.length + 1 : Nat) : Int) := by simp [IntKind.wrap, IntKind.bits, IntKind.signed]; omega
      have EM : M3 = l2 ++ rest.take (31 - l.length) := by
        rw [II, EL2.out, insertIdx_app _ _ _ _ hk, List.take_append, List.length_insertIdx, if_pos hk, show 32 - (l.length + 1) = 31 - l.length by omega]
      have EL : l2.length = l.length + 1 := by
        rw [EL2.out, List.length_take, List.length_insertIdx, if_pos hk]
        omega
      have HK := Lib.hid K4
      have HE := Lib.hid EM
      have HL := Lib.hid EL
      clear K3 K4 EM EL II
      go_wp2
      refine bodyPost_end (results_none rfl _ _ _) rfl ?_
      refine ⟨⟨_, rfl⟩, ?_, G4⟩
      rw [HF.out]
      refine ⟨rest.take (31 - l.length), ?_, ?_⟩
      · rw [← HE.out]; exact LI
      · rw [← HE.out, HL.out]; exact HK.out
end Go.Proofs.Ytnahjmladhbmpaa
