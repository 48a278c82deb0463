/- Spans: whether two rows are the same (printed by gen11/ue.py). -/
import Derived.Test.YtdlhclakdllogaaUc
import Derived.Test.YtdlhclakdllogaaUb
namespace Go.Proofs.Ytdlhclakdllogaa
open Go.RowKit

set_option maxHeartbeats 4000000 in
set_option maxRecDepth 100000 in
theorem samesp_c (l : List (Nat × Nat)) (p q : Option Addr) (n m c d : Nat) (hn : n ≤ 1000000) (W : World) (hs : SA W (.slice p n c) l) (ht : SA W (.slice q m d) l) :
    Calls Try.prog 17 #[.slice p n c, .slice q m d] W fun e w' => e = .returned (.bool true) ∧ Below W.heap.size W w' := by
  have em : m = n := ht.len.1.trans hs.len.1.symm
  subst em
  have EL := Lib.hid hs.len.1
  have HS := Lib.hid hs
  have HT := Lib.hid ht
  clear hs ht
  go_enter Try.func17, Try.ntmps17
  go_upto_region 4 with fail
  go_loopw [5] (fun t wr => ∃ i : Nat, i ≤ m ∧ t = .int .i64 (i : Int) ∧ Below W.heap.size W wr) (fun t _ => (m - intOf t).toNat)
  case atStart => exact ⟨0, by omega, rfl, Below.refl _ _⟩
  case round =>
    obtain ⟨i, hi, rfl, hB⟩ := hrel
    by_cases hin : i = m
    · subst i
      go_wp2
      go_ret
      exact ⟨rfl, hB⟩
    · have i1 : (i : Int) < (m : Int) := by omega
      have i0 : (0 : Int) ≤ (i : Int) := by omega
      have il : i < l.length := by rw [← EL.out]; omega
      obtain ⟨g, oo, rfl, hA⟩ : ∃ g o, p = some ⟨g, o, none⟩ ∧ PA W g o l := by
        rcases HS.out.at_ with h0 | h0
        · omega
        · exact h0
      obtain ⟨g', oo', rfl, hA'⟩ : ∃ g o, q = some ⟨g, o, none⟩ ∧ PA W g o l := by
        rcases HT.out.at_ with h0 | h0
        · omega
        · exact h0
      replace hB := below_drew hB
      have hS : (fun w' : World => w'.rangeAt g (oo + i * 2) (spL l[i]) ∧ w'.rangeAt g' (oo' + i * 2) (spL l[i])) wr.drew := ⟨(hA.below hB).at_ i il, (hA'.below hB).at_ i il⟩
      clear hA hA' HS HT
      generalize l[i] = x at *
      go_upto_region 6 with fail
      rename_i aK
      refine wp_region_S (S := fun w' => w'.rangeAt g (oo + i * 2) (spL x) ∧ w'.rangeAt g' (oo' + i * 2) (spL x)) (by kernel_rfl) ?_
      refine wpAnyS_takeL 0 (v := .slice (some ⟨g, oo, none⟩) m c) rfl (by kernel_rfl) (by kernel_rfl) (by kernel_rfl) (fun _ _ _ H => H) (yieldsIf_move rfl _ rfl (.slice (some ⟨g, oo, none⟩) m c) rfl) hS ?_
      simp only [AP]
      refine wpAnyS_takeL 1 (v := .int .i64 (i : Int)) rfl (by kernel_rfl) (by kernel_rfl) (by kernel_rfl) (fun _ _ _ H => H) (yieldsIf_move rfl _ rfl (.int .i64 (i : Int)) rfl) hS ?_
      simp only [AP]
      refine wpAnyS_takeL 2 (v := .pointer (some ⟨g, oo + i * 2, none⟩)) rfl (by kernel_rfl) (by kernel_rfl) (by kernel_rfl) (fun _ _ _ H => H) (Or.inl ⟨by rfl, fun w' hw' => by go_simp⟩) hS ?_
      simp only [AP]
      refine wpAnyS_takeL 3 (v := .agg (spL x).toArray) rfl (by kernel_rfl) (by kernel_rfl) (by kernel_rfl) (fun _ _ _ H => H) (show YieldsIf _ _ _ _ (.agg (spL x).toArray) _ from yieldsIf_load_mid rfl 47 _ rfl g (oo + i * 2) rfl (spL x) _ (fun _ h => h.1) Try.underlying47 rfl (info_spL x)) hS ?_
      simp only [AP]
      refine wpAnyS_takeL 4 (v := .slice (some ⟨g', oo', none⟩) m d) rfl (by kernel_rfl) (by kernel_rfl) (by kernel_rfl) (fun _ _ _ H => H) (yieldsIf_move rfl _ rfl (.slice (some ⟨g', oo', none⟩) m d) rfl) hS ?_
      simp only [AP]
      refine wpAnyS_takeL 5 (v := .int .i64 (i : Int)) rfl (by kernel_rfl) (by kernel_rfl) (by kernel_rfl) (fun _ _ _ H => H) (yieldsIf_move rfl _ rfl (.int .i64 (i : Int)) rfl) hS ?_
      simp only [AP]
      refine wpAnyS_takeL 6 (v := .pointer (some ⟨g', oo' + i * 2, none⟩)) rfl (by kernel_rfl) (by kernel_rfl) (by kernel_rfl) (fun _ _ _ H => H) (Or.inl ⟨by rfl, fun w' hw' => by go_simp⟩) hS ?_
      simp only [AP]
      refine wpAnyS_takeL 7 (v := .agg (spL x).toArray) rfl (by kernel_rfl) (by kernel_rfl) (by kernel_rfl) (fun _ _ _ H => H) (show YieldsIf _ _ _ _ (.agg (spL x).toArray) _ from yieldsIf_load_mid rfl 47 _ rfl g' (oo' + i * 2) rfl (spL x) _ (fun _ h => h.2) Try.underlying47 rfl (info_spL x)) hS ?_
      simp only [AP]
      refine wpAnyS_takeL 8 (v := .bool false) rfl (by kernel_rfl) (by kernel_rfl) (by kernel_rfl) (fun _ _ _ H => H) (Or.inl ⟨by rfl, fun w' hw' => by (simp only [spL]; go_simp)⟩) hS ?_
      simp only [AP]
      refine wpAnyS_done (by kernel_rfl) ?_ _
      refine aK _ _ ?_
      clear aK hS
      go_wp2
      exact ⟨⟨i + 1, by omega, rfl, hB⟩, by simp only [intOf]; omega⟩
end Go.Proofs.Ytdlhclakdllogaa
/- Frames: whether two are the same (printed by gen11/uf.py). -/
namespace Go.Proofs.Ytdlhclakdllogaa
open Go.RowKit

theorem size_alloc1 (W : World) (x : Obj) : (W.alloc x).heap.size = W.heap.size + 1 := by simp
section
variable {P : Program} {md : Region.Mode} {ops : Array Oper} {Q : Exit → Act → World → Prop} {S : World → Prop}
theorem gstep (i : Nat) {oi : Oper} {fuel : Nat} {listed : Array Bool} {a : Act} {w : World} (hi : ops.toList[i]? = some oi) (hwd : Region.wanted oi (yielded ops a.tmps) = true) (hr : Region.ready md ops listed = [i])
    (h : oi.wp P a w (fun a' w' => S w' ∧ wpAnyS P md ops Q S fuel (listed.setIfInBounds i true) a' w') Q) : wpAnyS P md ops Q S (fuel + 1) listed a w := by
  refine wpAnyS_one hr ?_
  unfold wpOp
  rw [← Array.getElem?_toList, hi]
  simp only [hwd, if_true]
  left
  exact h
end
set_option maxHeartbeats 4000000 in
set_option maxRecDepth 100000 in
theorem samefr_c (f : Fr) (ha : f.acks.length ≤ 1000000) (vd va ud ua : Value) (W : World) (hs : FD W f vd va) (ht : FD W f ud ua) :
    Calls Try.prog 29 #[frV f vd va, frV f ud ua] W fun e w' => e = .returned (.bool true) ∧ Below W.heap.size W w' := by
  obtain ⟨hs1, hs2⟩ := hs
  obtain ⟨ht1, ht2⟩ := ht
  obtain ⟨p1, c1, rfl⟩ := hs2.shape
  obtain ⟨p2, c2, rfl⟩ := ht2.shape
  obtain ⟨k, i, o, n, c, fn, d, a⟩ := f
  have C := Lib.hid (fun w (b : Below W.heap.size W w) => samesp_c a p1 p2 a.length a.length c1 c2 ha w (hs2.below b) (ht2.below b))
  clear hs2 ht2 ha
  show Calls Try.prog 29 #[.agg #[.int .u64 (k : Int), .int .u64 (i : Int), .int .u64 (o : Int), .int .u64 (n : Int), .int .u64 (c : Int), .bool fn, vd, .slice p1 a.length c1], .agg #[.int .u64 (k : Int), .int .u64 (i : Int), .int .u64 (o : Int), .int .u64 (n : Int), .int .u64 (c : Int), .bool fn, ud, .slice p2 a.length c2]] W _
  generalize a.length = m at *
  go_enter Try.func29, Try.ntmps29
  go_upto_region 0 with fail
  rename_i aK
  refine wp_region_seq ?_
  refine wpSeq_wp rfl ?_
  unfold Oper.wp execOp
  go_simp
  refine wpSeq_wp rfl ?_
  unfold Oper.wp execOp
  go_simp
  refine wpSeq_yield (S := fun _ => True) (yieldsIf_assign rfl _ rfl (.bool false) rfl) trivial ?_
  simp only [AP]
  refine wpSeq_nil ?_
  refine aK _ _ ?_
  clear aK
  have K1 := (Blk.new W 26 #[.int .u64 (k : Int), .int .u64 (i : Int), .int .u64 (o : Int), .int .u64 (n : Int), .int .u64 (c : Int), .bool fn, vd, .slice p1 m c1]).alloc (.cells #[.int .u64 (k : Int), .int .u64 (i : Int), .int .u64 (o : Int), .int .u64 (n : Int), .int .u64 (c : Int), .bool fn, ud, .slice p2 m c2] 26)
  have K2 := Blk.new (W.alloc (.cells #[.int .u64 (k : Int), .int .u64 (i : Int), .int .u64 (o : Int), .int .u64 (n : Int), .int .u64 (c : Int), .bool fn, vd, .slice p1 m c1] 26)) 26 #[.int .u64 (k : Int), .int .u64 (i : Int), .int .u64 (o : Int), .int .u64 (n : Int), .int .u64 (c : Int), .bool fn, ud, .slice p2 m c2]
  rw [size_alloc1] at K2
  have b := ((Below.refl W.heap.size W).alloc (Nat.le_refl _) (.cells #[.int .u64 (k : Int), .int .u64 (i : Int), .int .u64 (o : Int), .int .u64 (n : Int), .int .u64 (c : Int), .bool fn, vd, .slice p1 m c1] 26)).alloc (by rw [size_alloc1]; omega) (.cells #[.int .u64 (k : Int), .int .u64 (i : Int), .int .u64 (o : Int), .int .u64 (n : Int), .int .u64 (c : Int), .bool fn, ud, .slice p2 m c2] 26)
  generalize World.alloc (World.alloc W _) _ = W2 at *
  have x0 := K1.cell 0
  have y0 := K2.cell 0
  have x1 := K1.cell 1
  have y1 := K2.cell 1
  have x2 := K1.cell 2
  have y2 := K2.cell 2
  have x3 := K1.cell 3
  have y3 := K2.cell 3
  have x4 := K1.cell 4
  have y4 := K2.cell 4
  have x5 := K1.cell 5
  have y5 := K2.cell 5
  have x6 := K1.cell 6
  have y6 := K2.cell 6
  have x7 := K1.cell 7
  have y7 := K2.cell 7
  have s1 := hs1.below b
  have s2 := ht1.below b
  clear K1 K2 hs1 ht1
  replace x0 : W2.cell? ⟨W.heap.size, 0, none⟩ = some (.int .u64 (k : Int)) := x0
  replace y0 : W2.cell? ⟨W.heap.size + 1, 0, none⟩ = some (.int .u64 (k : Int)) := y0
  replace x1 : W2.cell? ⟨W.heap.size, 1, none⟩ = some (.int .u64 (i : Int)) := x1
  replace y1 : W2.cell? ⟨W.heap.size + 1, 1, none⟩ = some (.int .u64 (i : Int)) := y1
  replace x2 : W2.cell? ⟨W.heap.size, 2, none⟩ = some (.int .u64 (o : Int)) := x2
  replace y2 : W2.cell? ⟨W.heap.size + 1, 2, none⟩ = some (.int .u64 (o : Int)) := y2
  replace x3 : W2.cell? ⟨W.heap.size, 3, none⟩ = some (.int .u64 (n : Int)) := x3
  replace y3 : W2.cell? ⟨W.heap.size + 1, 3, none⟩ = some (.int .u64 (n : Int)) := y3
  replace x4 : W2.cell? ⟨W.heap.size, 4, none⟩ = some (.int .u64 (c : Int)) := x4
  replace y4 : W2.cell? ⟨W.heap.size + 1, 4, none⟩ = some (.int .u64 (c : Int)) := y4
  replace x5 : W2.cell? ⟨W.heap.size, 5, none⟩ = some (.bool fn) := x5
  replace y5 : W2.cell? ⟨W.heap.size + 1, 5, none⟩ = some (.bool fn) := y5
  replace x6 : W2.cell? ⟨W.heap.size, 6, none⟩ = some (vd) := x6
  replace y6 : W2.cell? ⟨W.heap.size + 1, 6, none⟩ = some (ud) := y6
  replace x7 : W2.cell? ⟨W.heap.size, 7, none⟩ = some (.slice p1 m c1) := x7
  replace y7 : W2.cell? ⟨W.heap.size + 1, 7, none⟩ = some (.slice p2 m c2) := y7
  go_upto_region 1 with fail
  rename_i aK
  refine wp_region_seq ?_
  refine wpSeq_yield (S := fun _ => True) (v := .pointer (some ⟨W.heap.size, 0, none⟩)) (Or.inl ⟨by rfl, fun w' hw' => by go_simp⟩) trivial ?_
  simp only [AP]
  refine wpSeq_yield (S := fun w' => w' = W2) (v := .int .u64 (k : Int)) (Or.inl ⟨by rfl, fun w' hw' => by (rw [hw']; go_simp)⟩) rfl ?_
  simp only [AP]
  refine wpSeq_yield (S := fun _ => True) (v := .pointer (some ⟨W.heap.size + 1, 0, none⟩)) (Or.inl ⟨by rfl, fun w' hw' => by go_simp⟩) trivial ?_
  simp only [AP]
  refine wpSeq_yield (S := fun w' => w' = W2) (v := .int .u64 (k : Int)) (Or.inl ⟨by rfl, fun w' hw' => by (rw [hw']; go_simp)⟩) rfl ?_
  simp only [AP]
  refine wpSeq_yield (S := fun _ => True) (v := .bool false) (Or.inl ⟨by rfl, fun w' hw' => by go_simp⟩) trivial ?_
  simp only [AP]
  refine wpSeq_yield (S := fun _ => True) (yieldsIf_move rfl _ rfl (.bool false) rfl) trivial ?_
  simp only [AP]
  refine wpSeq_yield (S := fun _ => True) (v := .pointer (some ⟨W.heap.size, 1, none⟩)) (Or.inl ⟨by rfl, fun w' hw' => by go_simp⟩) trivial ?_
  simp only [AP]
  refine wpSeq_yield (S := fun w' => w' = W2) (v := .int .u64 (i : Int)) (Or.inl ⟨by rfl, fun w' hw' => by (rw [hw']; go_simp)⟩) rfl ?_
  simp only [AP]
  refine wpSeq_yield (S := fun _ => True) (v := .pointer (some ⟨W.heap.size + 1, 1, none⟩)) (Or.inl ⟨by rfl, fun w' hw' => by go_simp⟩) trivial ?_
  simp only [AP]
  refine wpSeq_yield (S := fun w' => w' = W2) (v := .int .u64 (i : Int)) (Or.inl ⟨by rfl, fun w' hw' => by (rw [hw']; go_simp)⟩) rfl ?_
  simp only [AP]
  refine wpSeq_yield (S := fun _ => True) (v := .bool false) (Or.inl ⟨by rfl, fun w' hw' => by go_simp⟩) trivial ?_
  simp only [AP]
  refine wpSeq_yield (S := fun _ => True) (yieldsIf_pick rfl _ _ _ rfl false rfl (.bool false) rfl) trivial ?_
  simp only [AP]
  refine wpSeq_yield (S := fun _ => True) (yieldsIf_move rfl _ rfl (.bool false) rfl) trivial ?_
  simp only [AP]
  refine wpSeq_yield (S := fun _ => True) (v := .pointer (some ⟨W.heap.size, 2, none⟩)) (Or.inl ⟨by rfl, fun w' hw' => by go_simp⟩) trivial ?_
  simp only [AP]
  refine wpSeq_yield (S := fun w' => w' = W2) (v := .int .u64 (o : Int)) (Or.inl ⟨by rfl, fun w' hw' => by (rw [hw']; go_simp)⟩) rfl ?_
  simp only [AP]
  refine wpSeq_yield (S := fun _ => True) (v := .pointer (some ⟨W.heap.size + 1, 2, none⟩)) (Or.inl ⟨by rfl, fun w' hw' => by go_simp⟩) trivial ?_
  simp only [AP]
  refine wpSeq_yield (S := fun w' => w' = W2) (v := .int .u64 (o : Int)) (Or.inl ⟨by rfl, fun w' hw' => by (rw [hw']; go_simp)⟩) rfl ?_
  simp only [AP]
  refine wpSeq_yield (S := fun _ => True) (v := .bool false) (Or.inl ⟨by rfl, fun w' hw' => by go_simp⟩) trivial ?_
  simp only [AP]
  refine wpSeq_yield (S := fun _ => True) (yieldsIf_pick rfl _ _ _ rfl false rfl (.bool false) rfl) trivial ?_
  simp only [AP]
  refine wpSeq_yield (S := fun _ => True) (yieldsIf_move rfl _ rfl (.bool false) rfl) trivial ?_
  simp only [AP]
  refine wpSeq_yield (S := fun _ => True) (v := .pointer (some ⟨W.heap.size, 3, none⟩)) (Or.inl ⟨by rfl, fun w' hw' => by go_simp⟩) trivial ?_
  simp only [AP]
  refine wpSeq_yield (S := fun w' => w' = W2) (v := .int .u64 (n : Int)) (Or.inl ⟨by rfl, fun w' hw' => by (rw [hw']; go_simp)⟩) rfl ?_
  simp only [AP]
  refine wpSeq_yield (S := fun _ => True) (v := .pointer (some ⟨W.heap.size + 1, 3, none⟩)) (Or.inl ⟨by rfl, fun w' hw' => by go_simp⟩) trivial ?_
  simp only [AP]
  refine wpSeq_yield (S := fun w' => w' = W2) (v := .int .u64 (n : Int)) (Or.inl ⟨by rfl, fun w' hw' => by (rw [hw']; go_simp)⟩) rfl ?_
  simp only [AP]
  refine wpSeq_yield (S := fun _ => True) (v := .bool false) (Or.inl ⟨by rfl, fun w' hw' => by go_simp⟩) trivial ?_
  simp only [AP]
  refine wpSeq_yield (S := fun _ => True) (yieldsIf_pick rfl _ _ _ rfl false rfl (.bool false) rfl) trivial ?_
  simp only [AP]
  refine wpSeq_yield (S := fun _ => True) (yieldsIf_move rfl _ rfl (.bool false) rfl) trivial ?_
  simp only [AP]
  refine wpSeq_yield (S := fun _ => True) (v := .pointer (some ⟨W.heap.size, 4, none⟩)) (Or.inl ⟨by rfl, fun w' hw' => by go_simp⟩) trivial ?_
  simp only [AP]
  refine wpSeq_yield (S := fun w' => w' = W2) (v := .int .u64 (c : Int)) (Or.inl ⟨by rfl, fun w' hw' => by (rw [hw']; go_simp)⟩) rfl ?_
  simp only [AP]
  refine wpSeq_yield (S := fun _ => True) (v := .pointer (some ⟨W.heap.size + 1, 4, none⟩)) (Or.inl ⟨by rfl, fun w' hw' => by go_simp⟩) trivial ?_
  simp only [AP]
  refine wpSeq_yield (S := fun w' => w' = W2) (v := .int .u64 (c : Int)) (Or.inl ⟨by rfl, fun w' hw' => by (rw [hw']; go_simp)⟩) rfl ?_
  simp only [AP]
  refine wpSeq_yield (S := fun _ => True) (v := .bool false) (Or.inl ⟨by rfl, fun w' hw' => by go_simp⟩) trivial ?_
  simp only [AP]
  refine wpSeq_yield (S := fun _ => True) (yieldsIf_pick rfl _ _ _ rfl false rfl (.bool false) rfl) trivial ?_
  simp only [AP]
  refine wpSeq_yield (S := fun _ => True) (yieldsIf_move rfl _ rfl (.bool false) rfl) trivial ?_
  simp only [AP]
  refine wpSeq_yield (S := fun _ => True) (v := .pointer (some ⟨W.heap.size, 5, none⟩)) (Or.inl ⟨by rfl, fun w' hw' => by go_simp⟩) trivial ?_
  simp only [AP]
  refine wpSeq_yield (S := fun w' => w' = W2) (v := .bool fn) (Or.inl ⟨by rfl, fun w' hw' => by (rw [hw']; go_simp)⟩) rfl ?_
  simp only [AP]
  refine wpSeq_yield (S := fun _ => True) (v := .pointer (some ⟨W.heap.size + 1, 5, none⟩)) (Or.inl ⟨by rfl, fun w' hw' => by go_simp⟩) trivial ?_
  simp only [AP]
  refine wpSeq_yield (S := fun w' => w' = W2) (v := .bool fn) (Or.inl ⟨by rfl, fun w' hw' => by (rw [hw']; go_simp)⟩) rfl ?_
  simp only [AP]
  refine wpSeq_yield (S := fun _ => True) (v := .bool false) (Or.inl ⟨by rfl, fun w' hw' => by go_simp⟩) trivial ?_
  simp only [AP]
  refine wpSeq_yield (S := fun _ => True) (yieldsIf_pick rfl _ _ _ rfl false rfl (.bool false) rfl) trivial ?_
  simp only [AP]
  refine wpSeq_yield (S := fun _ => True) (yieldsIf_move rfl _ rfl (.bool false) rfl) trivial ?_
  simp only [AP]
  refine wpSeq_yield (S := fun _ => True) (v := .pointer (some ⟨W.heap.size, 6, none⟩)) (Or.inl ⟨by rfl, fun w' hw' => by go_simp⟩) trivial ?_
  simp only [AP]
  refine wpSeq_yield (S := fun w' => w' = W2) (v := vd) (Or.inl ⟨by rfl, fun w' hw' => by (rw [hw']; go_simp)⟩) rfl ?_
  simp only [AP]
  refine wpSeq_yield (S := fun w' => w' = W2) (yieldsIf_conv (S := fun w' => w' = W2) rfl _ rfl (vd) rfl d (fun w' h => h ▸ s1)) rfl ?_
  simp only [AP]
  refine wpSeq_yield (S := fun _ => True) (v := .pointer (some ⟨W.heap.size + 1, 6, none⟩)) (Or.inl ⟨by rfl, fun w' hw' => by go_simp⟩) trivial ?_
  simp only [AP]
  refine wpSeq_yield (S := fun w' => w' = W2) (v := ud) (Or.inl ⟨by rfl, fun w' hw' => by (rw [hw']; go_simp)⟩) rfl ?_
  simp only [AP]
  refine wpSeq_yield (S := fun w' => w' = W2) (yieldsIf_conv (S := fun w' => w' = W2) rfl _ rfl (ud) rfl d (fun w' h => h ▸ s2)) rfl ?_
  simp only [AP]
  refine wpSeq_yield (S := fun _ => True) (yieldsIf_strN rfl _ _ rfl d d rfl rfl rfl) trivial ?_
  simp only [AP]
  refine wpSeq_yield (S := fun _ => True) (yieldsIf_pick rfl _ _ _ rfl false rfl (.bool false) rfl) trivial ?_
  simp only [AP]
  refine wpSeq_nil ?_
  refine aK _ _ ?_
  clear aK x0 y0 x1 y1 x2 y2 x3 y3 x4 y4 x5 y5 x6 y6 s1 s2
  go_wp2_with fail
  refine (C.out _ b).mono ?_
  rintro _ w3 ⟨rfl, b3⟩
  go_wp2
  go_ret
  exact ⟨rfl, b.trans (b3.mono b.size)⟩
set_option maxHeartbeats 4000000 in
set_option maxRecDepth 100000 in
theorem samefrs_c (l : List Fr) (hl : ∀ f ∈ l, f.acks.length ≤ 1000000) (p q : Option Addr) (n m c d : Nat) (hn : n ≤ 1000000) (W : World) (hs : FS W (.slice p n c) l) (ht : FS W (.slice q m d) l) :
    Calls Try.prog 15 #[.slice p n c, .slice q m d] W fun e w' => e = .returned (.bool true) ∧ Below W.heap.size W w' := by
  have em : m = n := ht.len.1.trans hs.len.1.symm
  subst em
  have EL := Lib.hid hs.len.1
  have HS := Lib.hid hs
  have HT := Lib.hid ht
  clear hs ht
  go_enter Try.func15, Try.ntmps15
  go_upto_region 4 with fail
  go_loopw [5] (fun t wr => ∃ i : Nat, i ≤ m ∧ t = .int .i64 (i : Int) ∧ Below W.heap.size W wr) (fun t _ => (m - intOf t).toNat)
  case atStart => exact ⟨0, by omega, rfl, Below.refl _ _⟩
  case round =>
    obtain ⟨i, hi, rfl, hB⟩ := hrel
    by_cases hin : i = m
    · subst i
      go_wp2
      go_ret
      exact ⟨rfl, hB⟩
    · have i1 : (i : Int) < (m : Int) := by omega
      have i0 : (0 : Int) ≤ (i : Int) := by omega
      have il : i < l.length := by rw [← EL.out]; omega
      obtain ⟨g, oo, rfl, hA⟩ : ∃ g o, p = some ⟨g, o, none⟩ ∧ FA W g o l := by
        rcases HS.out.at_ with h0 | h0
        · omega
        · exact h0
      obtain ⟨g', oo', rfl, hA'⟩ : ∃ g o, q = some ⟨g, o, none⟩ ∧ FA W g o l := by
        rcases HT.out.at_ with h0 | h0
        · omega
        · exact h0
      replace hB := below_drew hB
      obtain ⟨vd, va, h1, h2⟩ := (hA.below hB).at_ i il
      obtain ⟨ud, ua, h3, h4⟩ := (hA'.below hB).at_ i il
      have lt1 := (hA.below hB).lt
      have lt2 := (hA'.below hB).lt
      have hS := Below.refl wr.drew.heap.size wr.drew
      have C := Lib.hid (samefr_c l[i] (hl _ (List.getElem_mem il)) vd va ud ua wr.drew h1 h3)
      clear hA hA' HS HT h1 h3 hl
      generalize l[i] = f at *
      go_upto_region 6 with fail
      rename_i aK
      refine wp_region_S (S := fun w' => Below wr.drew.heap.size wr.drew w') (by kernel_rfl) ?_
      refine wpAnyS_takeL 0 (v := .slice (some ⟨g, oo, none⟩) m c) rfl (by kernel_rfl) (by kernel_rfl) (by kernel_rfl) (fun _ _ _ H => H) (yieldsIf_move rfl _ rfl (.slice (some ⟨g, oo, none⟩) m c) rfl) hS ?_
      simp only [AP]
      refine wpAnyS_takeL 1 (v := .int .i64 (i : Int)) rfl (by kernel_rfl) (by kernel_rfl) (by kernel_rfl) (fun _ _ _ H => H) (yieldsIf_move rfl _ rfl (.int .i64 (i : Int)) rfl) hS ?_
      simp only [AP]
      refine wpAnyS_takeL 2 (v := .pointer (some ⟨g, oo + i * 8, none⟩)) rfl (by kernel_rfl) (by kernel_rfl) (by kernel_rfl) (fun _ _ _ H => H) (Or.inl ⟨by rfl, fun w' hw' => by go_simp⟩) hS ?_
      simp only [AP]
      refine wpAnyS_takeL 3 (v := frV f vd va) rfl (by kernel_rfl) (by kernel_rfl) (by kernel_rfl) (fun _ _ _ H => H) (show YieldsIf _ _ _ _ (frV f vd va) _ from yieldsIf_load_mid rfl 26 _ rfl g (oo + i * 8) rfl (frL f vd va) _ (fun _ h => rangeAt_below h2 h lt1) Try.underlying26 rfl (info_frL f vd va)) hS ?_
      simp only [AP]
      refine wpAnyS_takeL 4 (v := .slice (some ⟨g', oo', none⟩) m d) rfl (by kernel_rfl) (by kernel_rfl) (by kernel_rfl) (fun _ _ _ H => H) (yieldsIf_move rfl _ rfl (.slice (some ⟨g', oo', none⟩) m d) rfl) hS ?_
      simp only [AP]
      refine wpAnyS_takeL 5 (v := .int .i64 (i : Int)) rfl (by kernel_rfl) (by kernel_rfl) (by kernel_rfl) (fun _ _ _ H => H) (yieldsIf_move rfl _ rfl (.int .i64 (i : Int)) rfl) hS ?_
      simp only [AP]
      refine wpAnyS_takeL 6 (v := .pointer (some ⟨g', oo' + i * 8, none⟩)) rfl (by kernel_rfl) (by kernel_rfl) (by kernel_rfl) (fun _ _ _ H => H) (Or.inl ⟨by rfl, fun w' hw' => by go_simp⟩) hS ?_
      simp only [AP]
      refine wpAnyS_takeL 7 (v := frV f ud ua) rfl (by kernel_rfl) (by kernel_rfl) (by kernel_rfl) (fun _ _ _ H => H) (show YieldsIf _ _ _ _ (frV f ud ua) _ from yieldsIf_load_mid rfl 26 _ rfl g' (oo' + i * 8) rfl (frL f ud ua) _ (fun _ h => rangeAt_below h4 h lt2) Try.underlying26 rfl (info_frL f ud ua)) hS ?_
      simp only [AP]
      refine gstep 8 rfl rfl (by kernel_rfl) ?_
      unfold Oper.wp execOp
      go_simp
      refine C.out.mono ?_
      rintro _ w3 ⟨rfl, b3⟩
      refine ⟨b3, ?_⟩
      replace hB := hB.trans (b3.mono hB.size)
      clear C h2 h4 lt1 lt2 hS
      refine wpAnyS_takeL 9 (v := .bool false) rfl (by kernel_rfl) (by kernel_rfl) (by kernel_rfl) (fun _ _ _ H => H) (Or.inl ⟨by rfl, fun w' hw' => by go_simp⟩) b3 ?_
      simp only [AP]
      refine wpAnyS_done (by kernel_rfl) ?_ _
      refine aK _ _ ?_
      clear aK b3
      go_wp2
      exact ⟨⟨i + 1, by omega, rfl, hB⟩, by simp only [intOf]; omega⟩
end Go.Proofs.Ytdlhclakdllogaa
